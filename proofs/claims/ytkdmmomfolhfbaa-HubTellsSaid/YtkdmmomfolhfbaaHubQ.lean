
import Derived.Test.YtkdmmomfolhfbaaRows
import Derived.Test.YtkdmmomfolhfbaaHubH
import Derived.Test.YtkdmmomfolhfbaaHubI
import Derived.Test.YtkdmmomfolhfbaaHubP
import Derived.Test.YtkdmmomfolhfbaaVoteY
namespace Go.Proofs.Ytkdmmomfolhfbaa
set_option linter.unusedVariables false
set_option linter.unusedSimpArgs false
open Go.ChangeShapes Go.WideShapes Go.RowKit

set_option maxRecDepth 20000 in
set_option maxHeartbeats 0 in
theorem cHRun : CHRun := by
  intro n f v N len l w hn hf hN hlen hv
  obtain ⟨p, c, rfl⟩ := hv.form
  have HV := Lib.hid hv
  clear hv
  have CR := Lib.hid (fun w => vRight_any n f w hf)
  by_cases h : Vote.ok n f = true
  · rw [h] at CR
    have HE := Lib.hid (runE_yes (N := N) (len := len) (l := l) h)
    have HOK := Lib.hid (Vote.ok_iff.1 h)
    have hinfo : (Try.prog.info? 33).map (fun i => (i.zero, i.size, i.bytes)) = some (some (.agg #[.int .i64 0, .int .i64 0]), 2, 16) := by kernel_rfl
    obtain ⟨i0, hi, hzz⟩ := Option.map_eq_some_iff.1 hinfo
    simp only [Prod.mk.injEq] at hzz
    obtain ⟨hzi, hsi, hbytes⟩ := hzz
    have HII := Lib.hid (And.intro hi (And.intro hzi (And.intro hsi hbytes)))
    clear hinfo hi hzi hsi hbytes h
    go_enter Try.func9, Try.ntmps9
    go_upto_region 1 with fail
    have HI := Lib.hid ((Ints.box w f 24).alloc (.cells #[.int .i64 ((fun _ => (0 : Int)) 0), .int .i64 ((fun _ => (0 : Int)) 1), .int .i64 ((fun _ => (0 : Int)) 2), .int .i64 ((fun _ => (0 : Int)) 3), .int .i64 ((fun _ => (0 : Int)) 4), .int .i64 ((fun _ => (0 : Int)) 5), .int .i64 ((fun _ => (0 : Int)) 6), .int .i64 ((fun _ => (0 : Int)) 7), .int .i64 ((fun _ => (0 : Int)) 8), .int .i64 ((fun _ => (0 : Int)) 9), .int .i64 ((fun _ => (0 : Int)) 10), .int .i64 ((fun _ => (0 : Int)) 11)] 24))
    have HZ := Lib.hid (Ints.zeros (w.alloc (.cells #[.int .i64 (f 0), .int .i64 (f 1), .int .i64 (f 2), .int .i64 (f 3), .int .i64 (f 4), .int .i64 (f 5), .int .i64 (f 6), .int .i64 (f 7), .int .i64 (f 8), .int .i64 (f 9), .int .i64 (f 10), .int .i64 (f 11)] 24)) 24)
    have HB := Lib.hid (show Below w.heap.size w ((w.alloc (.cells #[.int .i64 (f 0), .int .i64 (f 1), .int .i64 (f 2), .int .i64 (f 3), .int .i64 (f 4), .int .i64 (f 5), .int .i64 (f 6), .int .i64 (f 7), .int .i64 (f 8), .int .i64 (f 9), .int .i64 (f 10), .int .i64 (f 11)] 24)).alloc (.cells #[.int .i64 ((fun _ => (0 : Int)) 0), .int .i64 ((fun _ => (0 : Int)) 1), .int .i64 ((fun _ => (0 : Int)) 2), .int .i64 ((fun _ => (0 : Int)) 3), .int .i64 ((fun _ => (0 : Int)) 4), .int .i64 ((fun _ => (0 : Int)) 5), .int .i64 ((fun _ => (0 : Int)) 6), .int .i64 ((fun _ => (0 : Int)) 7), .int .i64 ((fun _ => (0 : Int)) 8), .int .i64 ((fun _ => (0 : Int)) 9), .int .i64 ((fun _ => (0 : Int)) 10), .int .i64 ((fun _ => (0 : Int)) 11)] 24)) from bel)
    have hza : ((w.alloc (.cells #[.int .i64 (f 0), .int .i64 (f 1), .int .i64 (f 2), .int .i64 (f 3), .int .i64 (f 4), .int .i64 (f 5), .int .i64 (f 6), .int .i64 (f 7), .int .i64 (f 8), .int .i64 (f 9), .int .i64 (f 10), .int .i64 (f 11)] 24)).alloc (.cells #[.int .i64 ((fun _ => (0 : Int)) 0), .int .i64 ((fun _ => (0 : Int)) 1), .int .i64 ((fun _ => (0 : Int)) 2), .int .i64 ((fun _ => (0 : Int)) 3), .int .i64 ((fun _ => (0 : Int)) 4), .int .i64 ((fun _ => (0 : Int)) 5), .int .i64 ((fun _ => (0 : Int)) 6), .int .i64 ((fun _ => (0 : Int)) 7), .int .i64 ((fun _ => (0 : Int)) 8), .int .i64 ((fun _ => (0 : Int)) 9), .int .i64 ((fun _ => (0 : Int)) 10), .int .i64 ((fun _ => (0 : Int)) 11)] 24)).heap.size = w.heap.size + 2 := by simp
    rw [World.size_alloc] at HZ
    generalize hwa : World.alloc (World.alloc w _) _ = wa at *
    clear hwa
    have HI_c0 := (HI.out.2 0 (by decide)).1; have HI_c1 := (HI.out.2 1 (by decide)).1; have HI_c2 := (HI.out.2 2 (by decide)).1; have HI_c3 := (HI.out.2 3 (by decide)).1; have HI_c4 := (HI.out.2 4 (by decide)).1; have HI_c5 := (HI.out.2 5 (by decide)).1; have HI_c6 := (HI.out.2 6 (by decide)).1; have HI_c7 := (HI.out.2 7 (by decide)).1; have HI_c8 := (HI.out.2 8 (by decide)).1; have HI_c9 := (HI.out.2 9 (by decide)).1; have HI_c10 := (HI.out.2 10 (by decide)).1; have HI_c11 := (HI.out.2 11 (by decide)).1; have HI_z := HI.out.1
    go_wp2_with fail
    refine (CR.out _).mono ?_; rintro e w0 ⟨rfl, hb⟩; have hz := hb.size; (try simp only [World.size_alloc, World.heap_drewN, World.size_drew, World.size_setCell] at hz)
    have HB0 := Lib.hid (show Below w.heap.size w w0 from by have := HB.out; exact bel)
    have HI0 := Lib.hid (HI.out.below hb)
    have HZ0 := Lib.hid (HZ.out.below hb)
    have hz2 : w.heap.size + 2 ≤ w0.heap.size := by omega
    clear hb HI HZ HB
    clear HI_c0 HI_c1 HI_c2 HI_c3 HI_c4 HI_c5 HI_c6 HI_c7 HI_c8 HI_c9 HI_c10 HI_c11 HI_z
    go_wp2_with fail
    go_loopw [9, 22] (fun q k wr => ∃ (K : Nat) (qv : Value), K ≤ N ∧ k = .int .i64 K ∧ qv = q ∧ Hub.errK n f len l K = 0 ∧ Ints wr w.heap.size 12 (Hub.hubK n f len l K) ∧ Ints wr (w.heap.size + 1) 12 (fun _ => 0) ∧ wr.ownsRow (w.heap.size + 2) 33 2 qv K (listOf K (Hub.outs n f len l)) ∧ w.heap.size + 2 ≤ wr.heap.size ∧ Below w.heap.size w wr) (fun _ k _ => N - (intOf k).toNat)
    case atStart => exact ⟨0, _, by omega, rfl, rfl, rfl, HI0.out, HZ0.out, World.ownsRow_nil _ _ _ _, hz2, HB0.out⟩
    case round =>
      clear HI0 HZ0 HB0 hz2
      obtain ⟨K, qv, hK, rfl, rfl, hE, hI, hZ, hO, hz2, hb⟩ := hrel
      have HB := Lib.hid hb
      have HI := Lib.hid hI
      have HZ := Lib.hid hZ
      have HO := Lib.hid hO
      have HEK := Lib.hid hE
      clear hI hZ hO hE
      by_cases hlt : K < N
      · have h1 : (K : Int) < N := by omega
        have h0 : (0 : Int) ≤ K := by omega
        obtain ⟨b, o, rfl, hb2, hc⟩ := HV.out.some (by omega)
        obtain ⟨u, c0, hp⟩ := hc K hlt
        have hzb : b < wr.heap.size := Nat.lt_of_lt_of_le hb2 hb.size
        replace c0 : wr.cell? ⟨b, o + K, none⟩ = some u := by rw [hb.cell (p := ⟨b, o + K, none⟩) hb2]; exact c0
        obtain ⟨pu, cu, rfl⟩ := hp.form
        have HP := Lib.hid (hp.below hb)
        clear hp hb hc
        have CS := Lib.hid (fun w hl => cHStep n (Hub.hubK n f len l K) (.slice pu (len K) cu) (len K) (l K) w hn (ok_bd (Hub.hubK_ok HOK.out K HEK.out)) (hlen K hlt) hl)
        have HNX := Lib.hid (show Hub.hubK n f len l (K + 1) = Hub.step n (Hub.hubK n f len l K) (l K) (len K) from rfl)
        have HO0 := Lib.hid (Hub.outs_0 n f len l K)
        have HO1 := Lib.hid (Hub.outs_1 n f len l K)
        have HEN := Lib.hid (Hub.errK_next HEK.out)
        have HSY := Lib.hid (stepH_yes (n := n) (f := Hub.hubK n f len l K) (m := len K) (l := l K))
        have HFY := Lib.hid (stepF_yes (n := n) (f := Hub.hubK n f len l K) (m := len K) (l := l K))
        generalize Gate.wrong n (Hub.hubK n f len l K) (len K) (l K) = er at *
        generalize stepH n (Hub.hubK n f len l K) (len K) (l K) = sh at *
        generalize ho0 : stepF n (Hub.hubK n f len l K) (len K) (l K) 0 = so0 at *
        generalize ho1 : stepF n (Hub.hubK n f len l K) (len K) (l K) 1 = so1 at *
        generalize Hub.hubK n f len l K = hk at *
        have HS0 := Lib.hid ho0
        have HS1 := Lib.hid ho1
        clear ho0 ho1
        go_upto_region 7 with fail
        clear c0
        have HI_c0 := (HI.out.2 0 (by decide)).1; have HI_c1 := (HI.out.2 1 (by decide)).1; have HI_c2 := (HI.out.2 2 (by decide)).1; have HI_c3 := (HI.out.2 3 (by decide)).1; have HI_c4 := (HI.out.2 4 (by decide)).1; have HI_c5 := (HI.out.2 5 (by decide)).1; have HI_c6 := (HI.out.2 6 (by decide)).1; have HI_c7 := (HI.out.2 7 (by decide)).1; have HI_c8 := (HI.out.2 8 (by decide)).1; have HI_c9 := (HI.out.2 9 (by decide)).1; have HI_c10 := (HI.out.2 10 (by decide)).1; have HI_c11 := (HI.out.2 11 (by decide)).1; have HI_z := HI.out.1
        go_wp2_with fail
        refine (CS.out _ HP.out).mono ?_; rintro e w1 ⟨rfl, hb⟩; have hz := hb.size; (try simp only [World.size_alloc, World.heap_drewN, World.size_drew, World.size_setCell] at hz)
        go_upto_region 8 with fail
        generalize hwc : World.alloc (World.alloc w1 _) _ = wc
        have hbel : Below wr.heap.size wr wc := by rw [← hwc]; exact bel
        have hk0' : Ints wc w1.heap.size 12 sh := by
          rw [← hwc]
          exact (Ints.box w1 sh 24).alloc _
        have hf0' : Ints wc (w1.heap.size + 1) 2 (fun j => if j = 0 then so0 else so1) := by
          rw [← hwc]
          have q := Ints.two (w1.alloc (.cells #[.int .i64 (sh 0), .int .i64 (sh 1), .int .i64 (sh 2), .int .i64 (sh 3), .int .i64 (sh 4), .int .i64 (sh 5), .int .i64 (sh 6), .int .i64 (sh 7), .int .i64 (sh 8), .int .i64 (sh 9), .int .i64 (sh 10), .int .i64 (sh 11)] 24)) so0 so1 33 (fun j => if j = 0 then so0 else so1) rfl rfl
          rw [World.size_alloc] at q
          exact q
        have hKB : wr.heap.size ≤ w1.heap.size := by omega
        have hFB : wr.heap.size ≤ w1.heap.size + 1 := by omega
        have hne : w1.heap.size ≠ w1.heap.size + 1 := by omega
        clear HI_c0 HI_c1 HI_c2 HI_c3 HI_c4 HI_c5 HI_c6 HI_c7 HI_c8 HI_c9 HI_c10 HI_c11 HI_z
        clear hwc
        clear hz hb
        generalize hfb : w1.heap.size + 1 = fb at *
        generalize hkb : w1.heap.size = kb at *
        clear hfb hkb
        have hk0 := hKB
        have hf0 := hFB
        have HBc := Lib.hid (show Below w.heap.size w wc from by have := HB.out; exact bthru hbel this)
        have HIc := Lib.hid (HI.out.below hbel)
        have HZc := Lib.hid (HZ.out.below hbel)
        have HOc := Lib.hid (owns_below HO.out hbel)
        have HKc := Lib.hid hk0'
        have HFc := Lib.hid hf0'
        have hzc := hbel.size
        have hq : ∀ b', (b' < w.heap.size + 2 ∨ wr.heap.size ≤ b') → some b' ≠ Value.ownBlock qv := fun b' h1 h2 => by
          have := HO.out.lt b' h2.symm
          omega
        have hrow : ∀ k, Value.ownBlock qv = some k → w.heap.size + 2 ≤ k := fun k h2 => (HO.out.lt k h2).1
        clear hk0' hf0' hbel HI HZ HO HB
        by_cases he : er = 0
        · rw [he] at HEN
          rw [he]
          have HG := Lib.hid (show Hub.hubK n f len l (K + 1) = sh from by rw [HNX.out]; exact (HSY.out he).symm)
          have HOO := Lib.hid (show listOf (K + 1) (Hub.outs n f len l) = listOf K (Hub.outs n f len l) ++ [.int .i64 so0, .int .i64 so1] from by
            have e := HFY.out he
            have s0 := HS0.out
            have s1 := HS1.out
            rw [e] at s0 s1
            rw [listOf_next, HO0.out, HO1.out, s0, s1])
          clear HNX HSY HFY HO0 HO1 HS0 HS1 CS
          have h63 : K + 1 ≤ maxLen := by unfold maxLen; omega
          have hby : (K + 1) * 16 ≤ 140737488355328 := by omega
          have hbs : w.heap.size + 2 ≤ wc.heap.size := by omega
          have hzk := HKc.out.1
          have hzf := HFc.out.1
          have hqk := hq kb (Or.inr hk0)
          have hqf := hq fb (Or.inr hf0)
          have hqh := hq w.heap.size (Or.inl (by omega))
          have hnk : kb ≠ w.heap.size := by omega
          have hnf : fb ≠ w.heap.size := by omega
          have f0' := (HFc.out.2 0 (by decide)).1
          have f1' := (HFc.out.2 1 (by decide)).1
          replace f0' : wc.cell? ⟨fb, 0, none⟩ = some (.int .i64 so0) := f0'
          replace f1' : wc.cell? ⟨fb, 1, none⟩ = some (.int .i64 so1) := f1'
          have hS0 := hub_cells (U := .int .i64 so0) HKc.out f0'
          have hzi := HIc.out.1
          clear f0'
          go_upto_region 10 with fail
          go_region_held3 (fun w' => w'.cell? ⟨kb, 0, none⟩ = some (.int .i64 (sh 0)) ∧ w'.cell? ⟨kb, 1, none⟩ = some (.int .i64 (sh 1)) ∧ w'.cell? ⟨kb, 2, none⟩ = some (.int .i64 (sh 2)) ∧ w'.cell? ⟨kb, 3, none⟩ = some (.int .i64 (sh 3)) ∧ w'.cell? ⟨kb, 4, none⟩ = some (.int .i64 (sh 4)) ∧ w'.cell? ⟨kb, 5, none⟩ = some (.int .i64 (sh 5)) ∧ w'.cell? ⟨kb, 6, none⟩ = some (.int .i64 (sh 6)) ∧ w'.cell? ⟨kb, 7, none⟩ = some (.int .i64 (sh 7)) ∧ w'.cell? ⟨kb, 8, none⟩ = some (.int .i64 (sh 8)) ∧ w'.cell? ⟨kb, 9, none⟩ = some (.int .i64 (sh 9)) ∧ w'.cell? ⟨kb, 10, none⟩ = some (.int .i64 (sh 10)) ∧ w'.cell? ⟨kb, 11, none⟩ = some (.int .i64 (sh 11)) ∧ w'.cell? ⟨fb, 0, none⟩ = some (.int .i64 so0) ∧ w'.cell? ⟨fb, 1, none⟩ = some (.int .i64 so1))
            (first
              | (go_split_ands; refine ⟨?_, ?_, ?_, ?_, ?_, ?_, ?_, ?_, ?_, ?_, ?_, ?_, ?_, ?_⟩ <;> with_reducible repeat (first | assumption | apply cell_drew1 | apply cell_alloc1 | (refine cell_other1 ?_ _ _ _ (by first | omega | (simp; omega))) | (refine cell_grown1 hgrow ?_ (by assumption)))))
            (first | (refine step_append_lies _ (by rfl) _ _ _ (by rfl) (w.heap.size + 2) 33 i0 _ 2 16 Try.underlying28 HII.out.1 HII.out.2.1 HII.out.2.2.1 HII.out.2.2.2 rfl (by omega) qv K (listOf K (Hub.outs n f len l)) (by rfl) ((HOc.out.alloc _).drew) ⟨wc.heap.size, 0, none⟩ 1 1 [.int .i64 so0, .int .i64 so1] (by rfl) (by rfl) (World.news_of_block (cs := #[.int .i64 so0, .int .i64 so1]) (t := 33) (fr := (0, 0)) (heap_alloc_new wc _)) (by simp [Value.oneCell']) (by omega) h63 hby (by simp; omega) (wc.heap.size + 1) (by simp) ?_; intro gg cap w1 hown1 hgrow hat hlt2; have hI3 := Lib.hid (ints_grown (show Ints ((wc.alloc (.cells #[.int .i64 so0, .int .i64 so1] 33)).drew) w.heap.size 12 hk from HIc.out.alloc _) hgrow hqh); have hI3_c0 := (hI3.out.2 0 (by decide)).1; have hI3_f0 := (hI3.out.2 0 (by decide)).2; have hI3_c1 := (hI3.out.2 1 (by decide)).1; have hI3_f1 := (hI3.out.2 1 (by decide)).2; have hI3_c2 := (hI3.out.2 2 (by decide)).1; have hI3_f2 := (hI3.out.2 2 (by decide)).2; have hI3_c3 := (hI3.out.2 3 (by decide)).1; have hI3_f3 := (hI3.out.2 3 (by decide)).2; have hI3_c4 := (hI3.out.2 4 (by decide)).1; have hI3_f4 := (hI3.out.2 4 (by decide)).2; have hI3_c5 := (hI3.out.2 5 (by decide)).1; have hI3_f5 := (hI3.out.2 5 (by decide)).2; have hI3_c6 := (hI3.out.2 6 (by decide)).1; have hI3_f6 := (hI3.out.2 6 (by decide)).2; have hI3_c7 := (hI3.out.2 7 (by decide)).1; have hI3_f7 := (hI3.out.2 7 (by decide)).2; have hI3_c8 := (hI3.out.2 8 (by decide)).1; have hI3_f8 := (hI3.out.2 8 (by decide)).2; have hI3_c9 := (hI3.out.2 9 (by decide)).1; have hI3_f9 := (hI3.out.2 9 (by decide)).2; have hI3_c10 := (hI3.out.2 10 (by decide)).1; have hI3_f10 := (hI3.out.2 10 (by decide)).2; have hI3_c11 := (hI3.out.2 11 (by decide)).1; have hI3_f11 := (hI3.out.2 11 (by decide)).2; have hI3_z := hI3.out.1))
          generalize hw5 : World.setCell _ _ _ = w5
          have hbX : Below w.heap.size w ((wc.alloc (.cells #[.int .i64 so0, .int .i64 so1] 33)).drew) := by have := HBc.out; exact bel
          have hb1 : Below w.heap.size w w1 := hbX.grown hgrow hbX.size (fun k hk => by have := hrow k hk; omega)
          have HI5 := Lib.hid (show Ints w5 w.heap.size 12 sh from by rw [← hw5]; exact hI3.out.set12 sh)
          have HZ5 := Lib.hid (show Ints w5 (w.heap.size + 1) 12 (fun _ => 0) from by
            rw [← hw5]
            exact (ints_grown (show Ints ((wc.alloc (.cells #[.int .i64 so0, .int .i64 so1] 33)).drew) (w.heap.size + 1) 12 (fun _ => 0) from HZc.out.alloc _) hgrow (hq (w.heap.size + 1) (Or.inl (by omega)))).other12 w.heap.size sh (by omega))
          have HO5 := Lib.hid (show w5.ownsRow (w.heap.size + 2) 33 2 (.slice (some ⟨gg, 0, none⟩) (K + 1) cap) (K + 1) (listOf (K + 1) (Hub.outs n f len l)) from by
            rw [HOO.out, ← hw5]
            exact owns_set12 hown1 w.heap.size (by omega) sh)
          have HB5 := Lib.hid (show Below w.heap.size w w5 from by rw [← hw5]; exact bel)
          have hz5 : w.heap.size + 2 ≤ w5.heap.size := by
            have e1 : w5.heap.size = w1.heap.size := by rw [← hw5]; simp
            have := hgrow.size
            have e2 : ((wc.alloc (.cells #[.int .i64 so0, .int .i64 so1] 33)).drew).heap.size = wc.heap.size + 1 := by simp
            omega
          clear hw5 hown1 hgrow hat hI3 hb1 hbX hS0
          clear hI3_c0 hI3_f0 hI3_c1 hI3_f1 hI3_c2 hI3_f2 hI3_c3 hI3_f3 hI3_c4 hI3_f4 hI3_c5 hI3_f5 hI3_c6 hI3_f6 hI3_c7 hI3_f7 hI3_c8 hI3_f8 hI3_c9 hI3_f9 hI3_c10 hI3_f10 hI3_c11 hI3_f11 hI3_z
          go_wp2
          go_roundw
          case rel => exact ⟨K + 1, _, by omega, by go_num, rfl, HEN.out, by rw [HG.out]; exact HI5.out, HZ5.out, HO5.out, hz5, HB5.out⟩
          case measure => simp [intOf]; omega
        · have hE2 : Hub.runE n f N len l = er := by rw [HE.out, Hub.errK_stays (K := K + 1) (by rw [HEN.out]; exact he) N (by omega), HEN.out]
          have hE3 : Hub.runE n f N len l ≠ 0 := by rw [hE2]; exact he
          have HE2 := Lib.hid hE2
          have HH0 := Lib.hid (runH_no hE3)
          have HN0 := Lib.hid (runN_no hE3)
          have e1 : (er == 0) = false := by simp [he]
          have e2 : (er != 0) = true := by simp [he]
          clear hE2 hE3 HNX HSY HFY HO0 HO1 HS0 HS1 CS HEN HE
          have HZc_r := HZc.out.row12; have HZc_c0 := (HZc.out.2 0 (by decide)).1; have HZc_f0 := (HZc.out.2 0 (by decide)).2; have HZc_c1 := (HZc.out.2 1 (by decide)).1; have HZc_f1 := (HZc.out.2 1 (by decide)).2; have HZc_c2 := (HZc.out.2 2 (by decide)).1; have HZc_f2 := (HZc.out.2 2 (by decide)).2; have HZc_c3 := (HZc.out.2 3 (by decide)).1; have HZc_f3 := (HZc.out.2 3 (by decide)).2; have HZc_c4 := (HZc.out.2 4 (by decide)).1; have HZc_f4 := (HZc.out.2 4 (by decide)).2; have HZc_c5 := (HZc.out.2 5 (by decide)).1; have HZc_f5 := (HZc.out.2 5 (by decide)).2; have HZc_c6 := (HZc.out.2 6 (by decide)).1; have HZc_f6 := (HZc.out.2 6 (by decide)).2; have HZc_c7 := (HZc.out.2 7 (by decide)).1; have HZc_f7 := (HZc.out.2 7 (by decide)).2; have HZc_c8 := (HZc.out.2 8 (by decide)).1; have HZc_f8 := (HZc.out.2 8 (by decide)).2; have HZc_c9 := (HZc.out.2 9 (by decide)).1; have HZc_f9 := (HZc.out.2 9 (by decide)).2; have HZc_c10 := (HZc.out.2 10 (by decide)).1; have HZc_f10 := (HZc.out.2 10 (by decide)).2; have HZc_c11 := (HZc.out.2 11 (by decide)).1; have HZc_f11 := (HZc.out.2 11 (by decide)).2; have HZc_z := HZc.out.1
          have := HBc.out
          go_wp2
          refine bodyPost_ret (ret_cell_tmp2 Try.results9 (w.heap.size + 1) [.int .i64 ((fun _ => (0 : Int)) 0), .int .i64 ((fun _ => (0 : Int)) 1), .int .i64 ((fun _ => (0 : Int)) 2), .int .i64 ((fun _ => (0 : Int)) 3), .int .i64 ((fun _ => (0 : Int)) 4), .int .i64 ((fun _ => (0 : Int)) 5), .int .i64 ((fun _ => (0 : Int)) 6), .int .i64 ((fun _ => (0 : Int)) 7), .int .i64 ((fun _ => (0 : Int)) 8), .int .i64 ((fun _ => (0 : Int)) 9), .int .i64 ((fun _ => (0 : Int)) 10), .int .i64 ((fun _ => (0 : Int)) 11)] _ rfl rng Try.underlying24 rfl (by kernel_rfl)) rfl ⟨⟨.slice none 0 0, ?_, ?_⟩, bel⟩
          · rw [HH0.out, HE2.out]; rfl
          · rw [HN0.out]; exact Or.inl ⟨rfl, _, _, rfl⟩
      · obtain rfl : K = N := by omega
        have hE2 : Hub.runE n f K len l = 0 := by rw [HE.out]; exact HEK.out
        have HE2 := Lib.hid hE2
        have HH0 := Lib.hid (runH_yes hE2)
        have HN0 := Lib.hid (runN_yes hE2)
        generalize Hub.hubK n f len l K = hk at *
        clear hE2 HE HEK hb
        have HI_c0 := (HI.out.2 0 (by decide)).1; have HI_c1 := (HI.out.2 1 (by decide)).1; have HI_c2 := (HI.out.2 2 (by decide)).1; have HI_c3 := (HI.out.2 3 (by decide)).1; have HI_c4 := (HI.out.2 4 (by decide)).1; have HI_c5 := (HI.out.2 5 (by decide)).1; have HI_c6 := (HI.out.2 6 (by decide)).1; have HI_c7 := (HI.out.2 7 (by decide)).1; have HI_c8 := (HI.out.2 8 (by decide)).1; have HI_c9 := (HI.out.2 9 (by decide)).1; have HI_c10 := (HI.out.2 10 (by decide)).1; have HI_c11 := (HI.out.2 11 (by decide)).1; have HI_z := HI.out.1
        have HZ_r := HZ.out.row12; have HZ_c0 := (HZ.out.2 0 (by decide)).1; have HZ_f0 := (HZ.out.2 0 (by decide)).2; have HZ_c1 := (HZ.out.2 1 (by decide)).1; have HZ_f1 := (HZ.out.2 1 (by decide)).2; have HZ_c2 := (HZ.out.2 2 (by decide)).1; have HZ_f2 := (HZ.out.2 2 (by decide)).2; have HZ_c3 := (HZ.out.2 3 (by decide)).1; have HZ_f3 := (HZ.out.2 3 (by decide)).2; have HZ_c4 := (HZ.out.2 4 (by decide)).1; have HZ_f4 := (HZ.out.2 4 (by decide)).2; have HZ_c5 := (HZ.out.2 5 (by decide)).1; have HZ_f5 := (HZ.out.2 5 (by decide)).2; have HZ_c6 := (HZ.out.2 6 (by decide)).1; have HZ_f6 := (HZ.out.2 6 (by decide)).2; have HZ_c7 := (HZ.out.2 7 (by decide)).1; have HZ_f7 := (HZ.out.2 7 (by decide)).2; have HZ_c8 := (HZ.out.2 8 (by decide)).1; have HZ_f8 := (HZ.out.2 8 (by decide)).2; have HZ_c9 := (HZ.out.2 9 (by decide)).1; have HZ_f9 := (HZ.out.2 9 (by decide)).2; have HZ_c10 := (HZ.out.2 10 (by decide)).1; have HZ_f10 := (HZ.out.2 10 (by decide)).2; have HZ_c11 := (HZ.out.2 11 (by decide)).1; have HZ_f11 := (HZ.out.2 11 (by decide)).2; have HZ_z := HZ.out.1
        have := HB.out
        go_wp2
        generalize hw5 : World.setCell _ _ _ = w5
        have HO5 : w5.ownsRow (w.heap.size + 2) 33 2 qv K (listOf K (Hub.outs n f len l)) := by rw [← hw5]; exact owns_set12 HO.out (w.heap.size + 1) (by omega) hk
        have r5 : w5.rangeAt (w.heap.size + 1) 0 [.int .i64 (hk 0), .int .i64 (hk 1), .int .i64 (hk 2), .int .i64 (hk 3), .int .i64 (hk 4), .int .i64 (hk 5), .int .i64 (hk 6), .int .i64 (hk 7), .int .i64 (hk 8), .int .i64 (hk 9), .int .i64 (hk 10), .int .i64 (hk 11)] := (by rw [← hw5]; exact rng)
        have b5 : Below w.heap.size w w5 := by rw [← hw5]; exact bel
        refine bodyPost_ret (ret_cell_tmp2 Try.results9 (w.heap.size + 1) [.int .i64 (hk 0), .int .i64 (hk 1), .int .i64 (hk 2), .int .i64 (hk 3), .int .i64 (hk 4), .int .i64 (hk 5), .int .i64 (hk 6), .int .i64 (hk 7), .int .i64 (hk 8), .int .i64 (hk 9), .int .i64 (hk 10), .int .i64 (hk 11)] _ rfl r5 Try.underlying24 rfl (by kernel_rfl)) rfl ⟨⟨qv, ?_, ?_⟩, b5⟩
        · rw [HH0.out, HE2.out]; rfl
        · rw [HN0.out]; exact Prs.of_owns HO5 (fun j hj => listOf_at _ _ j hj)
  · have h := Bool.eq_false_iff.2 h
    rw [h] at CR
    have hE3 : Hub.runE n f N len l ≠ 0 := by rw [runE_no h]; decide
    have HE2 := Lib.hid (runE_no (N := N) (len := len) (l := l) h)
    have HH0 := Lib.hid (runH_no hE3)
    have HN0 := Lib.hid (runN_no hE3)
    clear hE3 h
    go_enter Try.func9, Try.ntmps9
    go_wp2_with fail
    refine (CR.out _).mono ?_; rintro e w1 ⟨rfl, hb⟩; have hz := hb.size; (try simp only [World.size_alloc, World.heap_drewN, World.size_drew, World.size_setCell] at hz)
    have HB1 := Lib.hid (show Below w.heap.size w w1 from bel)
    have HZ := Lib.hid ((Ints.zeros (w.alloc (.cells #[.int .i64 (f 0), .int .i64 (f 1), .int .i64 (f 2), .int .i64 (f 3), .int .i64 (f 4), .int .i64 (f 5), .int .i64 (f 6), .int .i64 (f 7), .int .i64 (f 8), .int .i64 (f 9), .int .i64 (f 10), .int .i64 (f 11)] 24)) 24).below hb)
    rw [World.size_alloc] at HZ
    clear hb
    have HZ_r := HZ.out.row12; have HZ_c0 := (HZ.out.2 0 (by decide)).1; have HZ_f0 := (HZ.out.2 0 (by decide)).2; have HZ_c1 := (HZ.out.2 1 (by decide)).1; have HZ_f1 := (HZ.out.2 1 (by decide)).2; have HZ_c2 := (HZ.out.2 2 (by decide)).1; have HZ_f2 := (HZ.out.2 2 (by decide)).2; have HZ_c3 := (HZ.out.2 3 (by decide)).1; have HZ_f3 := (HZ.out.2 3 (by decide)).2; have HZ_c4 := (HZ.out.2 4 (by decide)).1; have HZ_f4 := (HZ.out.2 4 (by decide)).2; have HZ_c5 := (HZ.out.2 5 (by decide)).1; have HZ_f5 := (HZ.out.2 5 (by decide)).2; have HZ_c6 := (HZ.out.2 6 (by decide)).1; have HZ_f6 := (HZ.out.2 6 (by decide)).2; have HZ_c7 := (HZ.out.2 7 (by decide)).1; have HZ_f7 := (HZ.out.2 7 (by decide)).2; have HZ_c8 := (HZ.out.2 8 (by decide)).1; have HZ_f8 := (HZ.out.2 8 (by decide)).2; have HZ_c9 := (HZ.out.2 9 (by decide)).1; have HZ_f9 := (HZ.out.2 9 (by decide)).2; have HZ_c10 := (HZ.out.2 10 (by decide)).1; have HZ_f10 := (HZ.out.2 10 (by decide)).2; have HZ_c11 := (HZ.out.2 11 (by decide)).1; have HZ_f11 := (HZ.out.2 11 (by decide)).2; have HZ_z := HZ.out.1
    have := HB1.out
    go_wp2
    refine bodyPost_ret (ret_cell_tmp2 Try.results9 (w.heap.size + 1) [.int .i64 ((fun _ => (0 : Int)) 0), .int .i64 ((fun _ => (0 : Int)) 1), .int .i64 ((fun _ => (0 : Int)) 2), .int .i64 ((fun _ => (0 : Int)) 3), .int .i64 ((fun _ => (0 : Int)) 4), .int .i64 ((fun _ => (0 : Int)) 5), .int .i64 ((fun _ => (0 : Int)) 6), .int .i64 ((fun _ => (0 : Int)) 7), .int .i64 ((fun _ => (0 : Int)) 8), .int .i64 ((fun _ => (0 : Int)) 9), .int .i64 ((fun _ => (0 : Int)) 10), .int .i64 ((fun _ => (0 : Int)) 11)] _ rfl rng Try.underlying24 rfl (by kernel_rfl)) rfl ⟨⟨.slice none 0 0, ?_, ?_⟩, bel⟩
    · rw [HH0.out, HE2.out]; rfl
    · rw [HN0.out]; exact Or.inl ⟨rfl, _, _, rfl⟩
end Go.Proofs.Ytkdmmomfolhfbaa
