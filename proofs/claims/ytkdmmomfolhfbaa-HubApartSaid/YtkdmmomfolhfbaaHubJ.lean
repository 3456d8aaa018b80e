
import Derived.Test.YtkdmmomfolhfbaaRows
import Derived.Test.YtkdmmomfolhfbaaHubK
import Derived.Test.YtkdmmomfolhfbaaPure
import Derived.Test.YtkdmmomfolhfbaaHubE
import Derived.Test.YtkdmmomfolhfbaaRow
import Derived.Deep.RegionHeld3
namespace Go.Proofs.Ytkdmmomfolhfbaa
set_option linter.unusedVariables false
set_option linter.unusedSimpArgs false
open Go.ChangeShapes Go.WideShapes Go.RowKit

/-- How far the last Cs is away, ahead of tick 'K'. -/
def Apart (M : Nat) (K : Nat) (last : Int) (g : Nat → Int) : Prop := Vote.Ok M g ∧ -1 ≤ last ∧ last < K ∧ (0 ≤ last → g 9 ≤ K - 1 - last)
set_option maxRecDepth 20000 in
set_option maxHeartbeats 0 in
theorem hubApart_in (hS : CHStep) (n : Nat) (hn : n < 256) (M : Nat) (hM : 3 + (n : Int) % 6 = M) (f : Nat → Int) (hok : Vote.Ok M f) (v : Value) (N : Nat) (len : Nat → Nat) (l : Nat → Nat → Int) (hN : N ≤ 100) (hlen : ∀ i, i < N → len i ≤ 20) (w : World) (hv : Tks w v N len l) :
    Calls Try.prog 4 #[.int .u8 n, .agg #[.int .i64 (f 0), .int .i64 (f 1), .int .i64 (f 2), .int .i64 (f 3), .int .i64 (f 4), .int .i64 (f 5), .int .i64 (f 6), .int .i64 (f 7), .int .i64 (f 8), .int .i64 (f 9), .int .i64 (f 10), .int .i64 (f 11)], v] w fun e w' => e = .returned (.bool true) ∧ Below w.heap.size w w' := by
  have h38 := hok.1
  have AW := Lib.hid (awake13_of hS)
  have bm : Bd (M : Int) := by unfold Bd; omega
  have hmx : maxLen = 9223372036854775807 := by unfold maxLen; rfl
  have hb0 : Below w.heap.size w (w.alloc (.cells #[.int .i64 (f 0), .int .i64 (f 1), .int .i64 (f 2), .int .i64 (f 3), .int .i64 (f 4), .int .i64 (f 5), .int .i64 (f 6), .int .i64 (f 7), .int .i64 (f 8), .int .i64 (f 9), .int .i64 (f 10), .int .i64 (f 11)] 24)) := bel
  have FW := Lib.hid (refFew_any v 100 N len l (w.alloc (.cells #[.int .i64 (f 0), .int .i64 (f 1), .int .i64 (f 2), .int .i64 (f 3), .int .i64 (f 4), .int .i64 (f 5), .int .i64 (f 6), .int .i64 (f 7), .int .i64 (f 8), .int .i64 (f 9), .int .i64 (f 10), .int .i64 (f 11)] 24)) (by omega) (fun i hi => by have := hlen i hi; omega) (hv.below hb0))
  rw [show few 100 N len = true from decide_eq_true ⟨by omega, hlen⟩] at FW
  have RR := Lib.hid (fun w => refVRight_any M f w)
  rw [Vote.ok_iff.2 hok] at RR
  have RG := Lib.hid (fun g w (hg : Vote.Ok M g) => by have := refVRight_any M g w; rw [Vote.ok_iff.2 hg] at this; exact this)
  have ST := Lib.hid (fun g va m l w (hg : Vote.Ok M g) hm hl => hS M g va m l w bm (ok_bd hg) hm hl)
  have HA0 := Lib.hid (show Apart M 0 (-1) f from ⟨hok, by omega, by omega, fun h => by omega⟩)
  have HV := Lib.hid hv
  obtain ⟨pv, cv, rfl⟩ := hv.form
  have HB := Lib.hid hb0
  clear hS bm hok hv hb0
  go_enter Try.func4, Try.ntmps4
  go_upto_region 1 with fail
  have HI := Lib.hid (Ints.box w f 24)
  generalize hwa : World.alloc w _ = wa at *
  clear hwa
  go_wp2_with fail
  refine (FW.out).mono ?_; rintro e w' ⟨rfl, rfl⟩
  clear FW
  have HI_c0 := (HI.out.2 0 (by decide)).1; have HI_c1 := (HI.out.2 1 (by decide)).1; have HI_c2 := (HI.out.2 2 (by decide)).1; have HI_c3 := (HI.out.2 3 (by decide)).1; have HI_c4 := (HI.out.2 4 (by decide)).1; have HI_c5 := (HI.out.2 5 (by decide)).1; have HI_c6 := (HI.out.2 6 (by decide)).1; have HI_c7 := (HI.out.2 7 (by decide)).1; have HI_c8 := (HI.out.2 8 (by decide)).1; have HI_c9 := (HI.out.2 9 (by decide)).1; have HI_c10 := (HI.out.2 10 (by decide)).1; have HI_c11 := (HI.out.2 11 (by decide)).1; have HI_z := HI.out.1
  go_wp2_with fail
  refine (RR.out _).mono ?_; rintro e w1 ⟨rfl, hb⟩; have hz := hb.size; (try simp only [World.size_alloc, World.heap_drewN, World.size_drew, World.size_setCell] at hz)
  have HB1 := Lib.hid (show Below w.heap.size w w1 from by have := HB.out; exact bel)
  have HI1 := Lib.hid (HI.out.below hb)
  clear hb HI HB RR
  clear HI_c0 HI_c1 HI_c2 HI_c3 HI_c4 HI_c5 HI_c6 HI_c7 HI_c8 HI_c9 HI_c10 HI_c11 HI_z
  go_wp2_with fail
  go_loopw [8, 9] (fun q k wr => ∃ (K : Nat) (last : Int), K ≤ N ∧ k = .int .i64 K ∧ q = .int .i64 last ∧ ∃ g, Apart M K last g ∧ Ints wr w.heap.size 12 g ∧ Below w.heap.size w wr) (fun _ k _ => N - (intOf k).toNat)
  case atStart => exact ⟨0, -1, by omega, rfl, rfl, f, HA0.out, HI1.out, HB1.out⟩
  case round =>
    clear HI1 HB1 HA0
    obtain ⟨K, last, hK, rfl, rfl, g, hA, hI, hb⟩ := hrel
    have HB := Lib.hid hb
    have HI := Lib.hid hI
    have HA := Lib.hid hA
    clear hb hI hA
    by_cases hlt : K < N
    · have h1 : (K : Int) < N := by omega
      have h0 : (0 : Int) ≤ K := by omega
      obtain ⟨b, o, rfl, hb2, hc⟩ := HV.out.some (by omega)
      obtain ⟨u, c0, hp⟩ := hc K hlt
      have hzb : b < wr.heap.size := Nat.lt_of_lt_of_le hb2 HB.out.size
      replace c0 : wr.cell? ⟨b, o + K, none⟩ = some u := by rw [HB.out.cell (p := ⟨b, o + K, none⟩) hb2]; exact c0
      obtain ⟨pu, cu, rfl⟩ := hp.form
      have HP := Lib.hid (hp.below HB.out)
      have hlK := hlen K hlt
      clear hp hc
      have C0 := Lib.hid c0
      by_cases hfit : Gate.Fits M (len K) (l K)
      · have FT := Lib.hid (refGFits_any M (.slice pu (len K) cu) (len K) (l K) wr (by omega) HP.out)
        rw [Gate.fits_iff.2 hfit] at FT
        have hw0 := Gate.wrong_zero HA.out.1 hfit
        have CS := Lib.hid (fun w hl => ST.out g (.slice pu (len K) cu) (len K) (l K) w HA.out.1 (by omega) hl)
        rw [stepH_yes hw0, stepF_yes hw0, hw0] at CS
        have HAP := Lib.hid (Hub.apart_step HA.out.1 hfit)
        have HOK := Lib.hid (Hub.ok_step (l := l K) (m := len K) HA.out.1 hfit.2.1)
        have hlm : (len K : Int) = M := hfit.2.1
        generalize Hub.step M g (l K) (len K) = d at *
        generalize Hub.out M g (l K) (len K) 0 = o0 at *
        generalize Hub.out M g (l K) (len K) 1 = o1 at *
        clear hw0 hfit
        go_wp2_with fail
        refine (FT.out).mono ?_; rintro e wf ⟨rfl, hb⟩; have hz := hb.size; (try simp only [World.size_alloc, World.heap_drewN, World.size_drew, World.size_setCell] at hz)
        have HBf := Lib.hid (show Below w.heap.size w wf from by have := HB.out; exact bel)
        have HIf := Lib.hid (HI.out.below hb)
        have HPf := Lib.hid (HP.out.below hb)
        have cf : wf.cell? ⟨b, o + K, none⟩ = some (.slice pu (len K) cu) := cell_below1 hb C0.out
        have hzbf : b < wf.heap.size := by omega
        clear hb HB HI HP FT c0 C0 hzb
        have C0 := Lib.hid cf
        go_upto_region 10 with fail
        have PAH : Hid (Ints ((wf.alloc (.cells #[.int .i64 0, .int .i64 0, .int .i64 0, .int .i64 0, .int .i64 0, .int .i64 0, .int .i64 0, .int .i64 0, .int .i64 0, .int .i64 0, .int .i64 0, .int .i64 0] 24)).alloc (.cells #[.int .i64 0, .int .i64 0] 33)).drew wf.heap.size 12 (fun _ => 0)) := (Ints.zeros wf 24).alloc (.cells #[.int .i64 0, .int .i64 0] 33)
        have PAF0 := Ints.two0 (wf.alloc (.cells #[.int .i64 0, .int .i64 0, .int .i64 0, .int .i64 0, .int .i64 0, .int .i64 0, .int .i64 0, .int .i64 0, .int .i64 0, .int .i64 0, .int .i64 0, .int .i64 0] 24)) 33
        have PBH0 := Ints.zeros (wf.alloc (.cells #[.int .i64 0, .int .i64 0] 33)) 24
        rw [World.size_alloc] at PAF0 PBH0
        have PAF : Hid (Ints ((wf.alloc (.cells #[.int .i64 0, .int .i64 0, .int .i64 0, .int .i64 0, .int .i64 0, .int .i64 0, .int .i64 0, .int .i64 0, .int .i64 0, .int .i64 0, .int .i64 0, .int .i64 0] 24)).alloc (.cells #[.int .i64 0, .int .i64 0] 33)).drew (wf.heap.size + 1) 2 (fun _ => 0)) := PAF0
        have PBF : Hid (Ints ((wf.alloc (.cells #[.int .i64 0, .int .i64 0] 33)).alloc (.cells #[.int .i64 0, .int .i64 0, .int .i64 0, .int .i64 0, .int .i64 0, .int .i64 0, .int .i64 0, .int .i64 0, .int .i64 0, .int .i64 0, .int .i64 0, .int .i64 0] 24)).drew wf.heap.size 2 (fun _ => 0)) := (Ints.two0 wf 33).alloc (.cells #[.int .i64 0, .int .i64 0, .int .i64 0, .int .i64 0, .int .i64 0, .int .i64 0, .int .i64 0, .int .i64 0, .int .i64 0, .int .i64 0, .int .i64 0, .int .i64 0] 24)
        have PBH : Hid (Ints ((wf.alloc (.cells #[.int .i64 0, .int .i64 0] 33)).alloc (.cells #[.int .i64 0, .int .i64 0, .int .i64 0, .int .i64 0, .int .i64 0, .int .i64 0, .int .i64 0, .int .i64 0, .int .i64 0, .int .i64 0, .int .i64 0, .int .i64 0] 24)).drew (wf.heap.size + 1) 12 (fun _ => 0)) := PBH0
        have PCH : Hid (Ints (wf.alloc (.cells #[.int .i64 0, .int .i64 0, .int .i64 0, .int .i64 0, .int .i64 0, .int .i64 0, .int .i64 0, .int .i64 0, .int .i64 0, .int .i64 0, .int .i64 0, .int .i64 0] 24)).drew wf.heap.size 12 (fun _ => 0)) := Ints.zeros wf 24
        have PDF : Hid (Ints (wf.alloc (.cells #[.int .i64 0, .int .i64 0] 33)).drew wf.heap.size 2 (fun _ => 0)) := Ints.two0 wf 33
        clear PAF0 PBH0
        have hz0 := HIf.out.1
        have hS0 := hub_cells (U := .slice pu (len K) cu) HIf.out cf
        clear cf
        go_cut [10, 11, 12] from 42 to 52 (fun s1 s2 s3 wx => s3 = .int .i64 (0) ∧ ∃ kb fb : Nat, s1 = .pointer (some ⟨kb, 0, none⟩) ∧ s2 = .pointer (some ⟨fb, 0, none⟩) ∧ kb ≠ fb ∧ wf.heap.size ≤ kb ∧ wf.heap.size ≤ fb ∧ Ints wx kb 12 d ∧ Ints wx fb 2 (fun j => if j = 0 then o0 else o1) ∧ Below wf.heap.size wf wx)
        case first =>
          go_region_held3 (fun w' => w'.cell? ⟨w.heap.size, 0, none⟩ = some (.int .i64 (g 0)) ∧ w'.cell? ⟨w.heap.size, 1, none⟩ = some (.int .i64 (g 1)) ∧ w'.cell? ⟨w.heap.size, 2, none⟩ = some (.int .i64 (g 2)) ∧ w'.cell? ⟨w.heap.size, 3, none⟩ = some (.int .i64 (g 3)) ∧ w'.cell? ⟨w.heap.size, 4, none⟩ = some (.int .i64 (g 4)) ∧ w'.cell? ⟨w.heap.size, 5, none⟩ = some (.int .i64 (g 5)) ∧ w'.cell? ⟨w.heap.size, 6, none⟩ = some (.int .i64 (g 6)) ∧ w'.cell? ⟨w.heap.size, 7, none⟩ = some (.int .i64 (g 7)) ∧ w'.cell? ⟨w.heap.size, 8, none⟩ = some (.int .i64 (g 8)) ∧ w'.cell? ⟨w.heap.size, 9, none⟩ = some (.int .i64 (g 9)) ∧ w'.cell? ⟨w.heap.size, 10, none⟩ = some (.int .i64 (g 10)) ∧ w'.cell? ⟨w.heap.size, 11, none⟩ = some (.int .i64 (g 11)) ∧ w'.cell? ⟨b, o + K, none⟩ = some (.slice pu (len K) cu))
            (first
              | (go_split_ands; refine ⟨?_, ?_, ?_, ?_, ?_, ?_, ?_, ?_, ?_, ?_, ?_, ?_, ?_⟩ <;> with_reducible repeat (first | assumption | apply cell_drew1 | apply cell_alloc1 | (refine cell_other1 ?_ _ _ _ (by first | omega | (simp; omega))) | (refine cell_below1 hb ?_))))
            (first | (go_at_call 11; refine (CS.out _ (HPf.out.below bel)).mono ?_; rintro e w1 ⟨rfl, hb⟩; have hz := hb.size; (try simp at hz); (first | (have kH := Lib.hid (by with_reducible exact ints_of hb PAH.out); have kF := Lib.hid (by with_reducible exact ints_of hb PAF.out); have kH_c0 := (kH.out.2 0 (by decide)).1; have kH_f0 := (kH.out.2 0 (by decide)).2; have kH_c1 := (kH.out.2 1 (by decide)).1; have kH_f1 := (kH.out.2 1 (by decide)).2; have kH_c2 := (kH.out.2 2 (by decide)).1; have kH_f2 := (kH.out.2 2 (by decide)).2; have kH_c3 := (kH.out.2 3 (by decide)).1; have kH_f3 := (kH.out.2 3 (by decide)).2; have kH_c4 := (kH.out.2 4 (by decide)).1; have kH_f4 := (kH.out.2 4 (by decide)).2; have kH_c5 := (kH.out.2 5 (by decide)).1; have kH_f5 := (kH.out.2 5 (by decide)).2; have kH_c6 := (kH.out.2 6 (by decide)).1; have kH_f6 := (kH.out.2 6 (by decide)).2; have kH_c7 := (kH.out.2 7 (by decide)).1; have kH_f7 := (kH.out.2 7 (by decide)).2; have kH_c8 := (kH.out.2 8 (by decide)).1; have kH_f8 := (kH.out.2 8 (by decide)).2; have kH_c9 := (kH.out.2 9 (by decide)).1; have kH_f9 := (kH.out.2 9 (by decide)).2; have kH_c10 := (kH.out.2 10 (by decide)).1; have kH_f10 := (kH.out.2 10 (by decide)).2; have kH_c11 := (kH.out.2 11 (by decide)).1; have kH_f11 := (kH.out.2 11 (by decide)).2; have kH_z := kH.out.1; have kF_c0 := (kF.out.2 0 (by decide)).1; have kF_f0 := (kF.out.2 0 (by decide)).2; have kF_c1 := (kF.out.2 1 (by decide)).1; have kF_f1 := (kF.out.2 1 (by decide)).2; have kF_z := kF.out.1) | (have kH := Lib.hid (by with_reducible exact ints_of hb PBH.out); have kF := Lib.hid (by with_reducible exact ints_of hb PBF.out); have kH_c0 := (kH.out.2 0 (by decide)).1; have kH_f0 := (kH.out.2 0 (by decide)).2; have kH_c1 := (kH.out.2 1 (by decide)).1; have kH_f1 := (kH.out.2 1 (by decide)).2; have kH_c2 := (kH.out.2 2 (by decide)).1; have kH_f2 := (kH.out.2 2 (by decide)).2; have kH_c3 := (kH.out.2 3 (by decide)).1; have kH_f3 := (kH.out.2 3 (by decide)).2; have kH_c4 := (kH.out.2 4 (by decide)).1; have kH_f4 := (kH.out.2 4 (by decide)).2; have kH_c5 := (kH.out.2 5 (by decide)).1; have kH_f5 := (kH.out.2 5 (by decide)).2; have kH_c6 := (kH.out.2 6 (by decide)).1; have kH_f6 := (kH.out.2 6 (by decide)).2; have kH_c7 := (kH.out.2 7 (by decide)).1; have kH_f7 := (kH.out.2 7 (by decide)).2; have kH_c8 := (kH.out.2 8 (by decide)).1; have kH_f8 := (kH.out.2 8 (by decide)).2; have kH_c9 := (kH.out.2 9 (by decide)).1; have kH_f9 := (kH.out.2 9 (by decide)).2; have kH_c10 := (kH.out.2 10 (by decide)).1; have kH_f10 := (kH.out.2 10 (by decide)).2; have kH_c11 := (kH.out.2 11 (by decide)).1; have kH_f11 := (kH.out.2 11 (by decide)).2; have kH_z := kH.out.1; have kF_c0 := (kF.out.2 0 (by decide)).1; have kF_f0 := (kF.out.2 0 (by decide)).2; have kF_c1 := (kF.out.2 1 (by decide)).1; have kF_f1 := (kF.out.2 1 (by decide)).2; have kF_z := kF.out.1) | (have kH := Lib.hid (by with_reducible exact ints_of hb PCH.out); have kH_c0 := (kH.out.2 0 (by decide)).1; have kH_f0 := (kH.out.2 0 (by decide)).2; have kH_c1 := (kH.out.2 1 (by decide)).1; have kH_f1 := (kH.out.2 1 (by decide)).2; have kH_c2 := (kH.out.2 2 (by decide)).1; have kH_f2 := (kH.out.2 2 (by decide)).2; have kH_c3 := (kH.out.2 3 (by decide)).1; have kH_f3 := (kH.out.2 3 (by decide)).2; have kH_c4 := (kH.out.2 4 (by decide)).1; have kH_f4 := (kH.out.2 4 (by decide)).2; have kH_c5 := (kH.out.2 5 (by decide)).1; have kH_f5 := (kH.out.2 5 (by decide)).2; have kH_c6 := (kH.out.2 6 (by decide)).1; have kH_f6 := (kH.out.2 6 (by decide)).2; have kH_c7 := (kH.out.2 7 (by decide)).1; have kH_f7 := (kH.out.2 7 (by decide)).2; have kH_c8 := (kH.out.2 8 (by decide)).1; have kH_f8 := (kH.out.2 8 (by decide)).2; have kH_c9 := (kH.out.2 9 (by decide)).1; have kH_f9 := (kH.out.2 9 (by decide)).2; have kH_c10 := (kH.out.2 10 (by decide)).1; have kH_f10 := (kH.out.2 10 (by decide)).2; have kH_c11 := (kH.out.2 11 (by decide)).1; have kH_f11 := (kH.out.2 11 (by decide)).2; have kH_z := kH.out.1) | (have kF := Lib.hid (by with_reducible exact ints_of hb PDF.out); have kF_c0 := (kF.out.2 0 (by decide)).1; have kF_f0 := (kF.out.2 0 (by decide)).2; have kF_c1 := (kF.out.2 1 (by decide)).1; have kF_f1 := (kF.out.2 1 (by decide)).2; have kF_z := kF.out.1) | skip)))
          all_goals
            go_wp2_with fail
            go_meet
            refine ⟨rfl, _, _, rfl, rfl, by omega, by omega, by omega, ?_, ?_, bel⟩
            · with_reducible repeat (first | exact kH.out | exact kF.out | (refine Ints.box_at _ _ _ (by simp; done)) | (refine Ints.two_at _ _ _ _ (by simp; done)) | (refine Ints.set12 (f := fun _ => 0) ?_ _) | (refine Ints.set2 (f := fun _ => 0) ?_ _ _) | (refine Ints.other ?_ _ _ _ (by omega)) | (refine Ints.alloc ?_ _) | (refine Ints.drew1 ?_))
            · with_reducible repeat (first | exact kH.out | exact kF.out | (refine Ints.box_at _ _ _ (by simp; done)) | (refine Ints.two_at _ _ _ _ (by simp; done)) | (refine Ints.set12 (f := fun _ => 0) ?_ _) | (refine Ints.set2 (f := fun _ => 0) ?_ _ _) | (refine Ints.other ?_ _ _ _ (by omega)) | (refine Ints.alloc ?_ _) | (refine Ints.drew1 ?_))
        case rest =>
          obtain ⟨rfl, kb, fb, rfl, rfl, hne, hk0, hf0, hKB, hFB, hbel⟩ := hcut
          have HBc := Lib.hid (show Below w.heap.size w wc from by have := HBf.out; exact bthru hbel this)
          have HIc := Lib.hid (HIf.out.below hbel)
          have HPc := Lib.hid (HPf.out.below hbel)
          have HKc := Lib.hid hKB
          have HFc := Lib.hid hFB
          have hzc := hbel.size
          have Cc := Lib.hid (cell_below1 hbel C0.out)
          clear PAH PAF PBF PBH PCH PDF hKB hFB hbel HIf HPf HBf C0 hS0
          rcases HAP.out with ⟨e0, e1, d9⟩ | ⟨P, hPm, hPM, e1, l0, l1, hcase⟩
          · have HD9 := Lib.hid d9
            clear d9
            rw [e0, e1] at HFc
            clear e0 e1
            have y0 : wc.cell? ⟨fb, 0, none⟩ = some (.int .i64 (0)) := (HFc.out.2 0 (by decide)).1
            have y1 : wc.cell? ⟨fb, 1, none⟩ = some (.int .i64 (0)) := (HFc.out.2 1 (by decide)).1
            have cc := Cc.out
            have RD := Lib.hid (fun w => RG.out d w HOK.out)
            have HKc_c0 := (HKc.out.2 0 (by decide)).1; have HKc_c1 := (HKc.out.2 1 (by decide)).1; have HKc_c2 := (HKc.out.2 2 (by decide)).1; have HKc_c3 := (HKc.out.2 3 (by decide)).1; have HKc_c4 := (HKc.out.2 4 (by decide)).1; have HKc_c5 := (HKc.out.2 5 (by decide)).1; have HKc_c6 := (HKc.out.2 6 (by decide)).1; have HKc_c7 := (HKc.out.2 7 (by decide)).1; have HKc_c8 := (HKc.out.2 8 (by decide)).1; have HKc_c9 := (HKc.out.2 9 (by decide)).1; have HKc_c10 := (HKc.out.2 10 (by decide)).1; have HKc_c11 := (HKc.out.2 11 (by decide)).1; have HKc_z := HKc.out.1
            go_upto_region 11 with fail
            refine region_below (by kernel_rfl) (by kernel_rfl) ?_; intro wR HW
            have HBR := Lib.hid (show Below w.heap.size w wR from by have := HBc.out; rw [← HW.out]; exact bel)
            have HIR := Lib.hid (show Ints wR w.heap.size 12 g from by rw [← HW.out]; exact HIc.out)
            have HKR := Lib.hid (show Ints wR kb 12 d from by rw [← HW.out]; exact HKc.out)
            have HFR := Lib.hid (show Ints wR fb 2 _ from by rw [← HW.out]; exact HFc.out)
            have HPR := Lib.hid (show Prs wR _ _ _ from by rw [← HW.out]; exact HPc.out)
            have CR := Lib.hid (show wR.cell? ⟨b, o + K, none⟩ = some (.slice pu (len K) cu) from by rw [← HW.out]; exact Cc.out)
            rw [HW.out] at y0 y1 cc HKc_c0 HKc_c1 HKc_c2 HKc_c3 HKc_c4 HKc_c5 HKc_c6 HKc_c7 HKc_c8 HKc_c9 HKc_c10 HKc_c11 HKc_z
            replace y0 := cell_regrown y0
            replace y1 := cell_regrown y1
            replace cc := cell_regrown cc
            replace HKc_c0 := cell_regrown HKc_c0; replace HKc_c1 := cell_regrown HKc_c1; replace HKc_c2 := cell_regrown HKc_c2; replace HKc_c3 := cell_regrown HKc_c3; replace HKc_c4 := cell_regrown HKc_c4; replace HKc_c5 := cell_regrown HKc_c5; replace HKc_c6 := cell_regrown HKc_c6; replace HKc_c7 := cell_regrown HKc_c7; replace HKc_c8 := cell_regrown HKc_c8; replace HKc_c9 := cell_regrown HKc_c9; replace HKc_c10 := cell_regrown HKc_c10; replace HKc_c11 := cell_regrown HKc_c11
            (repeat (first | go_big_quiet_step (first | with_reducible exact Calls.regrown_of (RD.out _)) | quiet_step (first | with_reducible exact Calls.regrown_of (RD.out _)))); refine wpQuiet_nil ?_; intro w2 hb2
            have HB3 := Lib.hid (show Below w.heap.size w w2 from by have := HBR.out; exact bthru hb2 this)
            have HI3 := Lib.hid (HIR.out.below hb2)
            have HK3 := Lib.hid (HKR.out.below hb2)
            have HF3 := Lib.hid (HFR.out.below hb2)
            have HP3 := Lib.hid (HPR.out.below hb2)
            have C3 := Lib.hid (cell_below1 hb2 CR.out)
            have hz3 := hb2.size
            clear hb2 y0 y1 cc HBR HIR HKR HFR HPR CR HKc HFc HIc HPc HBc
            clear HKc_c0 HKc_c1 HKc_c2 HKc_c3 HKc_c4 HKc_c5 HKc_c6 HKc_c7 HKc_c8 HKc_c9 HKc_c10 HKc_c11 HKc_z
            have y0 : w2.cell? ⟨fb, 0, none⟩ = some (.int .i64 (0)) := (HF3.out.2 0 (by decide)).1
            have y1 : w2.cell? ⟨fb, 1, none⟩ = some (.int .i64 (0)) := (HF3.out.2 1 (by decide)).1
            have HK3_c0 := (HK3.out.2 0 (by decide)).1; have HK3_c1 := (HK3.out.2 1 (by decide)).1; have HK3_c2 := (HK3.out.2 2 (by decide)).1; have HK3_c3 := (HK3.out.2 3 (by decide)).1; have HK3_c4 := (HK3.out.2 4 (by decide)).1; have HK3_c5 := (HK3.out.2 5 (by decide)).1; have HK3_c6 := (HK3.out.2 6 (by decide)).1; have HK3_c7 := (HK3.out.2 7 (by decide)).1; have HK3_c8 := (HK3.out.2 8 (by decide)).1; have HK3_c9 := (HK3.out.2 9 (by decide)).1; have HK3_c10 := (HK3.out.2 10 (by decide)).1; have HK3_c11 := (HK3.out.2 11 (by decide)).1; have HK3_z := HK3.out.1
            have HI3_r := HI3.out.row12; have HI3_c0 := (HI3.out.2 0 (by decide)).1; have HI3_f0 := (HI3.out.2 0 (by decide)).2; have HI3_c1 := (HI3.out.2 1 (by decide)).1; have HI3_f1 := (HI3.out.2 1 (by decide)).2; have HI3_c2 := (HI3.out.2 2 (by decide)).1; have HI3_f2 := (HI3.out.2 2 (by decide)).2; have HI3_c3 := (HI3.out.2 3 (by decide)).1; have HI3_f3 := (HI3.out.2 3 (by decide)).2; have HI3_c4 := (HI3.out.2 4 (by decide)).1; have HI3_f4 := (HI3.out.2 4 (by decide)).2; have HI3_c5 := (HI3.out.2 5 (by decide)).1; have HI3_f5 := (HI3.out.2 5 (by decide)).2; have HI3_c6 := (HI3.out.2 6 (by decide)).1; have HI3_f6 := (HI3.out.2 6 (by decide)).2; have HI3_c7 := (HI3.out.2 7 (by decide)).1; have HI3_f7 := (HI3.out.2 7 (by decide)).2; have HI3_c8 := (HI3.out.2 8 (by decide)).1; have HI3_f8 := (HI3.out.2 8 (by decide)).2; have HI3_c9 := (HI3.out.2 9 (by decide)).1; have HI3_f9 := (HI3.out.2 9 (by decide)).2; have HI3_c10 := (HI3.out.2 10 (by decide)).1; have HI3_f10 := (HI3.out.2 10 (by decide)).2; have HI3_c11 := (HI3.out.2 11 (by decide)).1; have HI3_f11 := (HI3.out.2 11 (by decide)).2; have HI3_z := HI3.out.1
            go_upto_region 7 with fail
            generalize hw9 : World.setCell _ _ _ = w9
            have HX9 := Lib.hid (show Ints w9 w.heap.size 12 d from by rw [← hw9]; exact HI3.out.set12 d)
            have HB9 := Lib.hid (show Below w.heap.size w w9 from by have := HB3.out; rw [← hw9]; exact bel)
            clear hw9 HI3 HK3 HB3 HI3_r HI3_f0 HI3_f1 HI3_f2 HI3_f3 HI3_f4 HI3_f5 HI3_f6 HI3_f7 HI3_f8 HI3_f9 HI3_f10 HI3_f11
            clear HI3_c0 HI3_c1 HI3_c2 HI3_c3 HI3_c4 HI3_c5 HI3_c6 HI3_c7 HI3_c8 HI3_c9 HI3_c10 HI3_c11 HI3_z
            clear HK3_c0 HK3_c1 HK3_c2 HK3_c3 HK3_c4 HK3_c5 HK3_c6 HK3_c7 HK3_c8 HK3_c9 HK3_c10 HK3_c11 HK3_z
            go_wp2
            go_roundw
            case rel =>
              obtain ⟨-, a1, a2, a3⟩ := HA.out
              have a4 := HD9.out
              exact ⟨K + 1, last, by omega, by go_num, rfl, d, ⟨HOK.out, a1, by omega, fun q => by have := a3 q; omega⟩, HX9.out, HB9.out⟩
            case measure => simp [intOf]; omega

          · have HHL1 := Lib.hid l1
            rcases hcase with ⟨e0, d9⟩ | ⟨e0, hmin, d9, h9⟩
            · have HD9 := Lib.hid d9
              rw [e0] at HFc l0
              rw [e1] at HFc
              have HHL0 := Lib.hid l0
              clear d9 e0 e1 l0 l1
              have y0 : wc.cell? ⟨fb, 0, none⟩ = some (.int .i64 (2)) := (HFc.out.2 0 (by decide)).1
              have y1 : wc.cell? ⟨fb, 1, none⟩ = some (.int .i64 (P)) := (HFc.out.2 1 (by decide)).1
              have cc := Cc.out
              have RD := Lib.hid (fun w => RG.out d w HOK.out)
              have HKc_c0 := (HKc.out.2 0 (by decide)).1; have HKc_c1 := (HKc.out.2 1 (by decide)).1; have HKc_c2 := (HKc.out.2 2 (by decide)).1; have HKc_c3 := (HKc.out.2 3 (by decide)).1; have HKc_c4 := (HKc.out.2 4 (by decide)).1; have HKc_c5 := (HKc.out.2 5 (by decide)).1; have HKc_c6 := (HKc.out.2 6 (by decide)).1; have HKc_c7 := (HKc.out.2 7 (by decide)).1; have HKc_c8 := (HKc.out.2 8 (by decide)).1; have HKc_c9 := (HKc.out.2 9 (by decide)).1; have HKc_c10 := (HKc.out.2 10 (by decide)).1; have HKc_c11 := (HKc.out.2 11 (by decide)).1; have HKc_z := HKc.out.1
              obtain ⟨bu, ou, rfl, hbu, hcu⟩ := HPc.out.some (by omega)
              have z0 := hcu (P * 2) (by omega)
              have z1 := hcu (P * 2 + 1) (by omega)
              rw [HHL0.out] at z0
              rw [HHL1.out] at z1
              rw [← Nat.add_assoc] at z1
              have P0 : (0 : Int) ≤ P := by omega
              have P1 : (P : Int) < M := by omega
              have P2 : (P : Int) < len K := by omega
              clear hcu
              go_upto_region 11 with fail
              refine region_below (by kernel_rfl) (by kernel_rfl) ?_; intro wR HW
              have HBR := Lib.hid (show Below w.heap.size w wR from by have := HBc.out; rw [← HW.out]; exact bel)
              have HIR := Lib.hid (show Ints wR w.heap.size 12 g from by rw [← HW.out]; exact HIc.out)
              have HKR := Lib.hid (show Ints wR kb 12 d from by rw [← HW.out]; exact HKc.out)
              have HFR := Lib.hid (show Ints wR fb 2 _ from by rw [← HW.out]; exact HFc.out)
              have HPR := Lib.hid (show Prs wR _ _ _ from by rw [← HW.out]; exact HPc.out)
              have CR := Lib.hid (show wR.cell? ⟨b, o + K, none⟩ = some (.slice (some ⟨bu, ou, none⟩) (len K) cu) from by rw [← HW.out]; exact Cc.out)
              rw [HW.out] at y0 y1 cc HKc_c0 HKc_c1 HKc_c2 HKc_c3 HKc_c4 HKc_c5 HKc_c6 HKc_c7 HKc_c8 HKc_c9 HKc_c10 HKc_c11 HKc_z
              replace y0 := cell_regrown y0
              replace y1 := cell_regrown y1
              replace cc := cell_regrown cc
              replace HKc_c0 := cell_regrown HKc_c0; replace HKc_c1 := cell_regrown HKc_c1; replace HKc_c2 := cell_regrown HKc_c2; replace HKc_c3 := cell_regrown HKc_c3; replace HKc_c4 := cell_regrown HKc_c4; replace HKc_c5 := cell_regrown HKc_c5; replace HKc_c6 := cell_regrown HKc_c6; replace HKc_c7 := cell_regrown HKc_c7; replace HKc_c8 := cell_regrown HKc_c8; replace HKc_c9 := cell_regrown HKc_c9; replace HKc_c10 := cell_regrown HKc_c10; replace HKc_c11 := cell_regrown HKc_c11
              rw [HW.out] at z0 z1
              replace z0 := cell_regrown z0
              replace z1 := cell_regrown z1
              (repeat (first | go_big_quiet_step (first | with_reducible exact Calls.regrown_of (RD.out _)) | quiet_step (first | with_reducible exact Calls.regrown_of (RD.out _)))); refine wpQuiet_nil ?_; intro w2 hb2
              have HB3 := Lib.hid (show Below w.heap.size w w2 from by have := HBR.out; exact bthru hb2 this)
              have HI3 := Lib.hid (HIR.out.below hb2)
              have HK3 := Lib.hid (HKR.out.below hb2)
              have HF3 := Lib.hid (HFR.out.below hb2)
              have HP3 := Lib.hid (HPR.out.below hb2)
              have C3 := Lib.hid (cell_below1 hb2 CR.out)
              have hz3 := hb2.size
              clear hb2 y0 y1 cc HBR HIR HKR HFR HPR CR HKc HFc HIc HPc HBc
              clear HKc_c0 HKc_c1 HKc_c2 HKc_c3 HKc_c4 HKc_c5 HKc_c6 HKc_c7 HKc_c8 HKc_c9 HKc_c10 HKc_c11 HKc_z
              clear z0 z1
              have y0 : w2.cell? ⟨fb, 0, none⟩ = some (.int .i64 (2)) := (HF3.out.2 0 (by decide)).1
              have y1 : w2.cell? ⟨fb, 1, none⟩ = some (.int .i64 (P)) := (HF3.out.2 1 (by decide)).1
              have HK3_c0 := (HK3.out.2 0 (by decide)).1; have HK3_c1 := (HK3.out.2 1 (by decide)).1; have HK3_c2 := (HK3.out.2 2 (by decide)).1; have HK3_c3 := (HK3.out.2 3 (by decide)).1; have HK3_c4 := (HK3.out.2 4 (by decide)).1; have HK3_c5 := (HK3.out.2 5 (by decide)).1; have HK3_c6 := (HK3.out.2 6 (by decide)).1; have HK3_c7 := (HK3.out.2 7 (by decide)).1; have HK3_c8 := (HK3.out.2 8 (by decide)).1; have HK3_c9 := (HK3.out.2 9 (by decide)).1; have HK3_c10 := (HK3.out.2 10 (by decide)).1; have HK3_c11 := (HK3.out.2 11 (by decide)).1; have HK3_z := HK3.out.1
              have HI3_r := HI3.out.row12; have HI3_c0 := (HI3.out.2 0 (by decide)).1; have HI3_f0 := (HI3.out.2 0 (by decide)).2; have HI3_c1 := (HI3.out.2 1 (by decide)).1; have HI3_f1 := (HI3.out.2 1 (by decide)).2; have HI3_c2 := (HI3.out.2 2 (by decide)).1; have HI3_f2 := (HI3.out.2 2 (by decide)).2; have HI3_c3 := (HI3.out.2 3 (by decide)).1; have HI3_f3 := (HI3.out.2 3 (by decide)).2; have HI3_c4 := (HI3.out.2 4 (by decide)).1; have HI3_f4 := (HI3.out.2 4 (by decide)).2; have HI3_c5 := (HI3.out.2 5 (by decide)).1; have HI3_f5 := (HI3.out.2 5 (by decide)).2; have HI3_c6 := (HI3.out.2 6 (by decide)).1; have HI3_f6 := (HI3.out.2 6 (by decide)).2; have HI3_c7 := (HI3.out.2 7 (by decide)).1; have HI3_f7 := (HI3.out.2 7 (by decide)).2; have HI3_c8 := (HI3.out.2 8 (by decide)).1; have HI3_f8 := (HI3.out.2 8 (by decide)).2; have HI3_c9 := (HI3.out.2 9 (by decide)).1; have HI3_f9 := (HI3.out.2 9 (by decide)).2; have HI3_c10 := (HI3.out.2 10 (by decide)).1; have HI3_f10 := (HI3.out.2 10 (by decide)).2; have HI3_c11 := (HI3.out.2 11 (by decide)).1; have HI3_f11 := (HI3.out.2 11 (by decide)).2; have HI3_z := HI3.out.1
              go_upto_region 7 with fail
              generalize hw9 : World.setCell _ _ _ = w9
              have HX9 := Lib.hid (show Ints w9 w.heap.size 12 d from by rw [← hw9]; exact HI3.out.set12 d)
              have HB9 := Lib.hid (show Below w.heap.size w w9 from by have := HB3.out; rw [← hw9]; exact bel)
              clear hw9 HI3 HK3 HB3 HI3_r HI3_f0 HI3_f1 HI3_f2 HI3_f3 HI3_f4 HI3_f5 HI3_f6 HI3_f7 HI3_f8 HI3_f9 HI3_f10 HI3_f11
              clear HI3_c0 HI3_c1 HI3_c2 HI3_c3 HI3_c4 HI3_c5 HI3_c6 HI3_c7 HI3_c8 HI3_c9 HI3_c10 HI3_c11 HI3_z
              clear HK3_c0 HK3_c1 HK3_c2 HK3_c3 HK3_c4 HK3_c5 HK3_c6 HK3_c7 HK3_c8 HK3_c9 HK3_c10 HK3_c11 HK3_z
              go_wp2
              go_roundw
              case rel =>
                obtain ⟨-, a1, a2, a3⟩ := HA.out
                have a4 := HD9.out
                exact ⟨K + 1, last, by omega, by go_num, rfl, d, ⟨HOK.out, a1, by omega, fun q => by have := a3 q; omega⟩, HX9.out, HB9.out⟩
              case measure => simp [intOf]; omega

            · have HD9 := Lib.hid d9
              have H9 := Lib.hid h9
              have HMIN := Lib.hid hmin
              rw [e0] at HFc l0
              rw [e1] at HFc
              have HHL0 := Lib.hid l0
              clear d9 e0 e1 l0 l1 hmin h9
              have y0 : wc.cell? ⟨fb, 0, none⟩ = some (.int .i64 (1)) := (HFc.out.2 0 (by decide)).1
              have y1 : wc.cell? ⟨fb, 1, none⟩ = some (.int .i64 (P)) := (HFc.out.2 1 (by decide)).1
              have cc := Cc.out
              have RD := Lib.hid (fun w => RG.out d w HOK.out)
              have HKc_c0 := (HKc.out.2 0 (by decide)).1; have HKc_c1 := (HKc.out.2 1 (by decide)).1; have HKc_c2 := (HKc.out.2 2 (by decide)).1; have HKc_c3 := (HKc.out.2 3 (by decide)).1; have HKc_c4 := (HKc.out.2 4 (by decide)).1; have HKc_c5 := (HKc.out.2 5 (by decide)).1; have HKc_c6 := (HKc.out.2 6 (by decide)).1; have HKc_c7 := (HKc.out.2 7 (by decide)).1; have HKc_c8 := (HKc.out.2 8 (by decide)).1; have HKc_c9 := (HKc.out.2 9 (by decide)).1; have HKc_c10 := (HKc.out.2 10 (by decide)).1; have HKc_c11 := (HKc.out.2 11 (by decide)).1; have HKc_z := HKc.out.1
              obtain ⟨bu, ou, rfl, hbu, hcu⟩ := HPc.out.some (by omega)
              have z0 := hcu (P * 2) (by omega)
              have z1 := hcu (P * 2 + 1) (by omega)
              rw [HHL0.out] at z0
              rw [HHL1.out] at z1
              rw [← Nat.add_assoc] at z1
              have P0 : (0 : Int) ≤ P := by omega
              have P1 : (P : Int) < M := by omega
              have P2 : (P : Int) < len K := by omega
              clear hcu
              go_upto_region 11 with fail
              refine region_below (by kernel_rfl) (by kernel_rfl) ?_; intro wR HW
              have HBR := Lib.hid (show Below w.heap.size w wR from by have := HBc.out; rw [← HW.out]; exact bel)
              have HIR := Lib.hid (show Ints wR w.heap.size 12 g from by rw [← HW.out]; exact HIc.out)
              have HKR := Lib.hid (show Ints wR kb 12 d from by rw [← HW.out]; exact HKc.out)
              have HFR := Lib.hid (show Ints wR fb 2 _ from by rw [← HW.out]; exact HFc.out)
              have HPR := Lib.hid (show Prs wR _ _ _ from by rw [← HW.out]; exact HPc.out)
              have CR := Lib.hid (show wR.cell? ⟨b, o + K, none⟩ = some (.slice (some ⟨bu, ou, none⟩) (len K) cu) from by rw [← HW.out]; exact Cc.out)
              rw [HW.out] at y0 y1 cc HKc_c0 HKc_c1 HKc_c2 HKc_c3 HKc_c4 HKc_c5 HKc_c6 HKc_c7 HKc_c8 HKc_c9 HKc_c10 HKc_c11 HKc_z
              replace y0 := cell_regrown y0
              replace y1 := cell_regrown y1
              replace cc := cell_regrown cc
              replace HKc_c0 := cell_regrown HKc_c0; replace HKc_c1 := cell_regrown HKc_c1; replace HKc_c2 := cell_regrown HKc_c2; replace HKc_c3 := cell_regrown HKc_c3; replace HKc_c4 := cell_regrown HKc_c4; replace HKc_c5 := cell_regrown HKc_c5; replace HKc_c6 := cell_regrown HKc_c6; replace HKc_c7 := cell_regrown HKc_c7; replace HKc_c8 := cell_regrown HKc_c8; replace HKc_c9 := cell_regrown HKc_c9; replace HKc_c10 := cell_regrown HKc_c10; replace HKc_c11 := cell_regrown HKc_c11
              rw [HW.out] at z0 z1
              replace z0 := cell_regrown z0
              replace z1 := cell_regrown z1
              (repeat (first | go_big_quiet_step (first | with_reducible exact Calls.regrown_of (RD.out _)) | quiet_step (first | with_reducible exact Calls.regrown_of (RD.out _)))); refine wpQuiet_nil ?_; intro w2 hb2
              have HB3 := Lib.hid (show Below w.heap.size w w2 from by have := HBR.out; exact bthru hb2 this)
              have HI3 := Lib.hid (HIR.out.below hb2)
              have HK3 := Lib.hid (HKR.out.below hb2)
              have HF3 := Lib.hid (HFR.out.below hb2)
              have HP3 := Lib.hid (HPR.out.below hb2)
              have C3 := Lib.hid (cell_below1 hb2 CR.out)
              have hz3 := hb2.size
              clear hb2 y0 y1 cc HBR HIR HKR HFR HPR CR HKc HFc HIc HPc HBc
              clear HKc_c0 HKc_c1 HKc_c2 HKc_c3 HKc_c4 HKc_c5 HKc_c6 HKc_c7 HKc_c8 HKc_c9 HKc_c10 HKc_c11 HKc_z
              clear z0 z1
              have y0 : w2.cell? ⟨fb, 0, none⟩ = some (.int .i64 1) := (HF3.out.2 0 (by decide)).1
              have y1 : w2.cell? ⟨fb, 1, none⟩ = some (.int .i64 P) := (HF3.out.2 1 (by decide)).1
              obtain ⟨bu2, ou2, hpu, hbu2, hcu2⟩ := HP3.out.some (by omega)
              injection hpu with hpu
              injection hpu with e1 e2
              subst e1
              subst e2
              have HCU := Lib.hid hcu2
              have c3 := C3.out
              have hl9 : decide (0 ≤ last) = true → decide ((K : Int) - last ≤ 2 * M) = false := fun q => decide_eq_false (by
                have q2 := of_decide_eq_true q
                obtain ⟨-, a1, a2, a3⟩ := HA.out
                have := a3 q2
                have := H9.out
                omega)
              have HL9 := Lib.hid hl9
              clear hcu2 hl9
              go_wp2_with fail
              go_loopw [13] (fun k wx => ∃ J : Nat, J ≤ P ∧ k = .int .i64 J ∧ w2 = wx) (fun k _ => P - (intOf k).toNat)
              case atStart => exact ⟨0, by omega, rfl, rfl⟩
              case round =>
                obtain ⟨J, hJ, rfl, rfl⟩ := hrel
                by_cases hjl : J < P
                · have j1 : (J : Int) < P := by omega
                  have j0 : (0 : Int) ≤ J := by omega
                  have j2 : (J : Int) < len K := by omega
                  have x0 := HCU.out (J * 2) (by omega)
                  have x1 : (l K (J * 2) == 1) = false := by simp [HMIN.out J hjl]
                  go_wp2_with fail
                  go_roundw
                  case rel => exact ⟨J + 1, by omega, by go_num, by trivial⟩
                  case measure => simp [intOf]; omega
                · obtain rfl : J = P := by omega
                  by_cases hlast : 0 ≤ last
                  · have g1 : decide (0 ≤ last) = true := decide_eq_true hlast
                    have g2 := HL9.out g1
                    have g3 : IntKind.i64.wrap ((K : Int) - last) = K - last := IntWalk.i64_in _ (by have := HA.out; obtain ⟨-, a1, a2, -⟩ := this; omega)
                    have g4 : IntKind.i64.wrap (2 * (M : Int)) = 2 * M := IntWalk.i64_in _ (by omega)
                    have y0 : w2.cell? ⟨fb, 0, none⟩ = some (.int .i64 (1)) := (HF3.out.2 0 (by decide)).1
                    have y1 : w2.cell? ⟨fb, 1, none⟩ = some (.int .i64 (J)) := (HF3.out.2 1 (by decide)).1
                    have HK3_c0 := (HK3.out.2 0 (by decide)).1; have HK3_c1 := (HK3.out.2 1 (by decide)).1; have HK3_c2 := (HK3.out.2 2 (by decide)).1; have HK3_c3 := (HK3.out.2 3 (by decide)).1; have HK3_c4 := (HK3.out.2 4 (by decide)).1; have HK3_c5 := (HK3.out.2 5 (by decide)).1; have HK3_c6 := (HK3.out.2 6 (by decide)).1; have HK3_c7 := (HK3.out.2 7 (by decide)).1; have HK3_c8 := (HK3.out.2 8 (by decide)).1; have HK3_c9 := (HK3.out.2 9 (by decide)).1; have HK3_c10 := (HK3.out.2 10 (by decide)).1; have HK3_c11 := (HK3.out.2 11 (by decide)).1; have HK3_z := HK3.out.1
                    have HI3_r := HI3.out.row12; have HI3_c0 := (HI3.out.2 0 (by decide)).1; have HI3_f0 := (HI3.out.2 0 (by decide)).2; have HI3_c1 := (HI3.out.2 1 (by decide)).1; have HI3_f1 := (HI3.out.2 1 (by decide)).2; have HI3_c2 := (HI3.out.2 2 (by decide)).1; have HI3_f2 := (HI3.out.2 2 (by decide)).2; have HI3_c3 := (HI3.out.2 3 (by decide)).1; have HI3_f3 := (HI3.out.2 3 (by decide)).2; have HI3_c4 := (HI3.out.2 4 (by decide)).1; have HI3_f4 := (HI3.out.2 4 (by decide)).2; have HI3_c5 := (HI3.out.2 5 (by decide)).1; have HI3_f5 := (HI3.out.2 5 (by decide)).2; have HI3_c6 := (HI3.out.2 6 (by decide)).1; have HI3_f6 := (HI3.out.2 6 (by decide)).2; have HI3_c7 := (HI3.out.2 7 (by decide)).1; have HI3_f7 := (HI3.out.2 7 (by decide)).2; have HI3_c8 := (HI3.out.2 8 (by decide)).1; have HI3_f8 := (HI3.out.2 8 (by decide)).2; have HI3_c9 := (HI3.out.2 9 (by decide)).1; have HI3_f9 := (HI3.out.2 9 (by decide)).2; have HI3_c10 := (HI3.out.2 10 (by decide)).1; have HI3_f10 := (HI3.out.2 10 (by decide)).2; have HI3_c11 := (HI3.out.2 11 (by decide)).1; have HI3_f11 := (HI3.out.2 11 (by decide)).2; have HI3_z := HI3.out.1
                    go_upto_region 7 with fail
                    generalize hw9 : World.setCell _ _ _ = w9
                    have HX9 := Lib.hid (show Ints w9 w.heap.size 12 d from by rw [← hw9]; exact HI3.out.set12 d)
                    have HB9 := Lib.hid (show Below w.heap.size w w9 from by have := HB3.out; rw [← hw9]; exact bel)
                    clear hw9 HI3 HK3 HB3 HI3_r HI3_f0 HI3_f1 HI3_f2 HI3_f3 HI3_f4 HI3_f5 HI3_f6 HI3_f7 HI3_f8 HI3_f9 HI3_f10 HI3_f11
                    clear HI3_c0 HI3_c1 HI3_c2 HI3_c3 HI3_c4 HI3_c5 HI3_c6 HI3_c7 HI3_c8 HI3_c9 HI3_c10 HI3_c11 HI3_z
                    clear HK3_c0 HK3_c1 HK3_c2 HK3_c3 HK3_c4 HK3_c5 HK3_c6 HK3_c7 HK3_c8 HK3_c9 HK3_c10 HK3_c11 HK3_z
                    go_wp2
                    go_roundw
                    case rel =>
                      have a4 := HD9.out
                      exact ⟨K + 1, K, by omega, by go_num, rfl, d, ⟨HOK.out, by omega, by omega, fun q => by omega⟩, HX9.out, HB9.out⟩
                    case measure => simp [intOf]; omega
                  · have g1 : decide (0 ≤ last) = false := decide_eq_false hlast
                    have y0 : w2.cell? ⟨fb, 0, none⟩ = some (.int .i64 (1)) := (HF3.out.2 0 (by decide)).1
                    have y1 : w2.cell? ⟨fb, 1, none⟩ = some (.int .i64 (J)) := (HF3.out.2 1 (by decide)).1
                    have HK3_c0 := (HK3.out.2 0 (by decide)).1; have HK3_c1 := (HK3.out.2 1 (by decide)).1; have HK3_c2 := (HK3.out.2 2 (by decide)).1; have HK3_c3 := (HK3.out.2 3 (by decide)).1; have HK3_c4 := (HK3.out.2 4 (by decide)).1; have HK3_c5 := (HK3.out.2 5 (by decide)).1; have HK3_c6 := (HK3.out.2 6 (by decide)).1; have HK3_c7 := (HK3.out.2 7 (by decide)).1; have HK3_c8 := (HK3.out.2 8 (by decide)).1; have HK3_c9 := (HK3.out.2 9 (by decide)).1; have HK3_c10 := (HK3.out.2 10 (by decide)).1; have HK3_c11 := (HK3.out.2 11 (by decide)).1; have HK3_z := HK3.out.1
                    have HI3_r := HI3.out.row12; have HI3_c0 := (HI3.out.2 0 (by decide)).1; have HI3_f0 := (HI3.out.2 0 (by decide)).2; have HI3_c1 := (HI3.out.2 1 (by decide)).1; have HI3_f1 := (HI3.out.2 1 (by decide)).2; have HI3_c2 := (HI3.out.2 2 (by decide)).1; have HI3_f2 := (HI3.out.2 2 (by decide)).2; have HI3_c3 := (HI3.out.2 3 (by decide)).1; have HI3_f3 := (HI3.out.2 3 (by decide)).2; have HI3_c4 := (HI3.out.2 4 (by decide)).1; have HI3_f4 := (HI3.out.2 4 (by decide)).2; have HI3_c5 := (HI3.out.2 5 (by decide)).1; have HI3_f5 := (HI3.out.2 5 (by decide)).2; have HI3_c6 := (HI3.out.2 6 (by decide)).1; have HI3_f6 := (HI3.out.2 6 (by decide)).2; have HI3_c7 := (HI3.out.2 7 (by decide)).1; have HI3_f7 := (HI3.out.2 7 (by decide)).2; have HI3_c8 := (HI3.out.2 8 (by decide)).1; have HI3_f8 := (HI3.out.2 8 (by decide)).2; have HI3_c9 := (HI3.out.2 9 (by decide)).1; have HI3_f9 := (HI3.out.2 9 (by decide)).2; have HI3_c10 := (HI3.out.2 10 (by decide)).1; have HI3_f10 := (HI3.out.2 10 (by decide)).2; have HI3_c11 := (HI3.out.2 11 (by decide)).1; have HI3_f11 := (HI3.out.2 11 (by decide)).2; have HI3_z := HI3.out.1
                    go_upto_region 7 with fail
                    generalize hw9 : World.setCell _ _ _ = w9
                    have HX9 := Lib.hid (show Ints w9 w.heap.size 12 d from by rw [← hw9]; exact HI3.out.set12 d)
                    have HB9 := Lib.hid (show Below w.heap.size w w9 from by have := HB3.out; rw [← hw9]; exact bel)
                    clear hw9 HI3 HK3 HB3 HI3_r HI3_f0 HI3_f1 HI3_f2 HI3_f3 HI3_f4 HI3_f5 HI3_f6 HI3_f7 HI3_f8 HI3_f9 HI3_f10 HI3_f11
                    clear HI3_c0 HI3_c1 HI3_c2 HI3_c3 HI3_c4 HI3_c5 HI3_c6 HI3_c7 HI3_c8 HI3_c9 HI3_c10 HI3_c11 HI3_z
                    clear HK3_c0 HK3_c1 HK3_c2 HK3_c3 HK3_c4 HK3_c5 HK3_c6 HK3_c7 HK3_c8 HK3_c9 HK3_c10 HK3_c11 HK3_z
                    go_wp2
                    go_roundw
                    case rel =>
                      have a4 := HD9.out
                      exact ⟨K + 1, K, by omega, by go_num, rfl, d, ⟨HOK.out, by omega, by omega, fun q => by omega⟩, HX9.out, HB9.out⟩
                    case measure => simp [intOf]; omega

      · have FT := Lib.hid (refGFits_any M (.slice pu (len K) cu) (len K) (l K) wr (by omega) HP.out)
        rw [Gate.fits_no hfit] at FT
        clear hfit
        go_wp2_with fail
        refine (FT.out).mono ?_; rintro e wf ⟨rfl, hb⟩; have hz := hb.size; (try simp only [World.size_alloc, World.heap_drewN, World.size_drew, World.size_setCell] at hz)
        have HBf := Lib.hid (show Below w.heap.size w wf from by have := HB.out; exact bel)
        clear hb
        go_wp2_with fail
        refine (AW.out _).mono ?_; rintro e w9 ⟨rfl, hb⟩; have hz := hb.size; (try simp only [World.size_alloc, World.heap_drewN, World.size_drew, World.size_setCell] at hz)
        have := HBf.out
        go_wp2
        go_ret
        exact ⟨rfl, bel⟩
    · obtain rfl : K = N := by omega
      have := HB.out
      go_wp2_with fail
      refine (AW.out _).mono ?_; rintro e w9 ⟨rfl, hb⟩; have hz := hb.size; (try simp only [World.size_alloc, World.heap_drewN, World.size_drew, World.size_setCell] at hz)
      go_wp2
      go_ret
      exact ⟨rfl, bel⟩
theorem hubApart_of (hS : CHStep) (n : Nat) (hn : n < 256) (f : Nat → Int) (v : Value) (N : Nat) (len : Nat → Nat) (l : Nat → Nat → Int) (hN : N ≤ maxLen) (hlen : ∀ i, i < N → len i ≤ maxLen) (w : World) (hv : Tks w v N len l) :
    Calls Try.prog 4 #[.int .u8 n, .agg #[.int .i64 (f 0), .int .i64 (f 1), .int .i64 (f 2), .int .i64 (f 3), .int .i64 (f 4), .int .i64 (f 5), .int .i64 (f 6), .int .i64 (f 7), .int .i64 (f 8), .int .i64 (f 9), .int .i64 (f 10), .int .i64 (f 11)], v] w fun e w' => e = .returned (.bool true) ∧ Below w.heap.size w w' := by
  obtain ⟨M, hM⟩ := Int.eq_ofNat_of_zero_le (show 0 ≤ 3 + (n : Int) % 6 by omega)
  by_cases h : ((N : Int) ≤ 100 ∧ ∀ i, i < N → len i ≤ 20) ∧ Vote.Ok M f
  · exact hubApart_in hS n hn M hM f h.2 v N len l (by omega) h.1.2 w hv
  · have AW := Lib.hid (awake13_of hS)
    have hb0 : Below w.heap.size w (w.alloc (.cells #[.int .i64 (f 0), .int .i64 (f 1), .int .i64 (f 2), .int .i64 (f 3), .int .i64 (f 4), .int .i64 (f 5), .int .i64 (f 6), .int .i64 (f 7), .int .i64 (f 8), .int .i64 (f 9), .int .i64 (f 10), .int .i64 (f 11)] 24)) := bel
    have FW := Lib.hid (refFew_any v 100 N len l (w.alloc (.cells #[.int .i64 (f 0), .int .i64 (f 1), .int .i64 (f 2), .int .i64 (f 3), .int .i64 (f 4), .int .i64 (f 5), .int .i64 (f 6), .int .i64 (f 7), .int .i64 (f 8), .int .i64 (f 9), .int .i64 (f 10), .int .i64 (f 11)] 24)) hN hlen (hv.below hb0))
    have RR := Lib.hid (fun w => refVRight_any M f w)
    have HB := Lib.hid hb0
    clear hS hb0
    go_enter Try.func4, Try.ntmps4
    go_upto_region 1 with fail
    have HI := Lib.hid (Ints.box w f 24)
    generalize hwa : World.alloc w _ = wa at *
    clear hwa
    go_wp2_with fail
    refine (FW.out).mono ?_; rintro e w' ⟨rfl, rfl⟩
    clear FW
    by_cases hf : (N : Int) ≤ 100 ∧ ∀ i, i < N → len i ≤ 20
    · rw [show few 100 N len = true from decide_eq_true hf, Vote.ok_no (fun q => h ⟨hf, q⟩)] at *
      clear hf h
      have HI_c0 := (HI.out.2 0 (by decide)).1; have HI_c1 := (HI.out.2 1 (by decide)).1; have HI_c2 := (HI.out.2 2 (by decide)).1; have HI_c3 := (HI.out.2 3 (by decide)).1; have HI_c4 := (HI.out.2 4 (by decide)).1; have HI_c5 := (HI.out.2 5 (by decide)).1; have HI_c6 := (HI.out.2 6 (by decide)).1; have HI_c7 := (HI.out.2 7 (by decide)).1; have HI_c8 := (HI.out.2 8 (by decide)).1; have HI_c9 := (HI.out.2 9 (by decide)).1; have HI_c10 := (HI.out.2 10 (by decide)).1; have HI_c11 := (HI.out.2 11 (by decide)).1; have HI_z := HI.out.1
      go_wp2_with fail
      refine (RR.out _).mono ?_; rintro e w1 ⟨rfl, hb⟩; have hz := hb.size; (try simp only [World.size_alloc, World.heap_drewN, World.size_drew, World.size_setCell] at hz)
      have HB1 := Lib.hid (show Below w.heap.size w w1 from by have := HB.out; exact bel)
      clear hb
      go_wp2_with fail
      refine (AW.out _).mono ?_; rintro e w6 ⟨rfl, hb⟩; have hz := hb.size; (try simp only [World.size_alloc, World.heap_drewN, World.size_drew, World.size_setCell] at hz)
      have := HB1.out
      go_wp2
      go_ret
      exact ⟨rfl, bel⟩
    · rw [show few 100 N len = false from decide_eq_false hf]
      go_wp2_with fail
      refine (AW.out _).mono ?_; rintro e w6 ⟨rfl, hb⟩; have hz := hb.size; (try simp only [World.size_alloc, World.heap_drewN, World.size_drew, World.size_setCell] at hz)
      have := HB.out
      go_wp2
      go_ret
      exact ⟨rfl, bel⟩
end Go.Proofs.Ytkdmmomfolhfbaa
