
import Derived.Test.YtijgabippedhpaaRows
import Derived.Test.YtijgabippedhpaaGateP
import Derived.Test.YtijgabippedhpaaGateQ
import Derived.Test.YtijgabippedhpaaHeld
namespace Go.Proofs.Ytijgabippedhpaa
set_option linter.unusedVariables false
set_option linter.unusedSimpArgs false
open Go.ChangeShapes Go.WideShapes Go.RowKit

/-! The program's Relay: of a slot that is held. -/
theorem ret_cell2 {P : Program} {fn : Func} {p q : Tmp} {ty ty2 : TypeId} (h : fn.results = #[.cell p ty, .cell q ty2]) {tmps : Array Value} {w : World} (b : Nat) (cs : List Value) (d : TypeDesc) (b2 : Nat) (cs2 : List Value) (d2 : TypeDesc)
    (hp : tmps.getD p undef = .pointer (some ⟨b, 0, none⟩)) (hq : tmps.getD q undef = .pointer (some ⟨b2, 0, none⟩)) (hc : w.rangeAt b 0 cs) (hu : P.underlying ty = some d) (hd : d.isRow = true) (hi : (P.info? ty).map (·.size) = some cs.length)
    (hc2 : w.rangeAt b2 0 cs2) (hu2 : P.underlying ty2 = some d2) (hd2 : d2.isRow = true) (hi2 : (P.info? ty2).map (·.size) = some cs2.length) :
    (results fn tmps).run P w = .ok (.tuple #[.agg cs.toArray, .agg cs2.toArray]) w := by
  have hp' : tmps[p]?.getD undef = .pointer (some ⟨b, 0, none⟩) := by simpa using hp
  have hq' : tmps[q]?.getD undef = .pointer (some ⟨b2, 0, none⟩) := by simpa using hq
  simp only [results, h]
  simp [Sem.run_bind, hp', hq', asAddr, run_loadVar_mid w b 0 ty cs d hc hu hd hi, run_loadVar_mid w b2 0 ty2 cs2 d2 hc2 hu2 hd2 hi2]
/-- The list of a hub's integers, of a frame's. -/
def hubL (f : Nat → Int) : List Value := [.int .i64 (f 0), .int .i64 (f 1), .int .i64 (f 2), .int .i64 (f 3), .int .i64 (f 4), .int .i64 (f 5), .int .i64 (f 6), .int .i64 (f 7), .int .i64 (f 8), .int .i64 (f 9), .int .i64 (f 10), .int .i64 (f 11)]
def frL (k i : Int) : List Value := [.int .i64 k, .int .i64 i]
theorem Ints.cells12 {w : World} {b : Nat} {g : Nat → Int} (h : Ints w b 12 g) (f : Nat → Int) : Ints (w.setCells b 0 (hubL f)) b 12 f := h.set12 f
theorem Ints.cells2 {w : World} {b : Nat} {g : Nat → Int} (h : Ints w b 2 g) (k i : Int) : Ints (w.setCells b 0 (frL k i)) b 2 (fr2 k i) := by
  refine ((h.set 0 k (by decide) (fun j => if j = 0 then k else g j) (fun j => rfl)).set 1 i (by decide) (fun j => if j = 1 then i else if j = 0 then k else g j) (fun j => rfl)).like (fun j hj => ?_)
  have h2 : j = 0 ∨ j = 1 := by omega
  rcases h2 with rfl | rfl <;> rfl
theorem Ints.apart {b' n : Nat} {f : Nat → Int} (b : Nat) (hb : b ≠ b') : ∀ (vs : List Value) (o : Nat) (w : World), Ints w b' n f → Ints (w.setCells b o vs) b' n f
  | [], _, _, h => h
  | v :: r, o, w, h => Ints.apart b hb r (o + 1) _ (h.other b o v hb)
theorem frL_row {w : World} {b : Nat} {k i : Int} (h : Ints w b 2 (fr2 k i)) : w.rangeAt b 0 (frL k i) := h.row2
theorem hubL_row {w : World} {b : Nat} {f : Nat → Int} (h : Ints w b 12 f) : w.rangeAt b 0 (hubL f) := h.row12
theorem hubL_one (f : Nat → Int) : (hubL f).toArray.all (·.oneCell') = true := by kernel_rfl
theorem frL_one (k i : Int) : (frL k i).toArray.all (·.oneCell') = true := by kernel_rfl
theorem Ints.drew {w : World} {b n : Nat} {f : Nat → Int} (h : Ints w b n f) : Ints w.drew b n f := h
/-- A hub and a frame, loaded and stored into two other places. -/
structure Four (b c d e : Nat) (f : Nat → Int) (k i : Int) (w : World) : Prop where
  hub : Ints w b 12 f
  fr : Ints w c 2 (fr2 k i)
  hub2 : ∃ g, Ints w d 12 g
  fr2 : ∃ g, Ints w e 2 g
theorem Four.drew {b c d e : Nat} {f : Nat → Int} {k i : Int} {w : World} (h : Four b c d e f k i w) : Four b c d e f k i w.drew := ⟨h.1, h.2, h.3, h.4⟩
theorem Four.one {b c d e : Nat} {f : Nat → Int} {k i : Int} {w : World} (h : Four b c d e f k i w) (h1 : d ≠ b) (h2 : d ≠ c) (h3 : d ≠ e) (g : Nat → Int) : Four b c d e f k i (w.setCells d 0 (hubL g)) := by
  obtain ⟨g1, hg1⟩ := h.3
  obtain ⟨g2, hg2⟩ := h.4
  exact ⟨Ints.apart d h1 _ _ _ h.1, Ints.apart d h2 _ _ _ h.2, ⟨_, hg1.cells12 g⟩, ⟨_, Ints.apart d h3 _ _ _ hg2⟩⟩
theorem Four.two {b c d e : Nat} {f : Nat → Int} {k i : Int} {w : World} (h : Four b c d e f k i w) (h1 : e ≠ b) (h2 : e ≠ c) (h3 : e ≠ d) (x y : Int) : Four b c d e f k i (w.setCells e 0 (frL x y)) := by
  obtain ⟨g1, hg1⟩ := h.3
  obtain ⟨g2, hg2⟩ := h.4
  exact ⟨Ints.apart e h1 _ _ _ h.1, Ints.apart e h2 _ _ _ h.2, ⟨_, Ints.apart e h3 _ _ _ hg1⟩, ⟨_, hg2.cells2 x y⟩⟩
set_option maxHeartbeats 4000000 in
theorem relayInfo_any (m : Nat) (f : Nat → Int) (va : Value) (l : Nat → Int) (w : World) (hm : m ≤ 1000) (hl : Prs w va m l) (h : Gate.wrong m f m l = 0) (h0 : 0 < f 10) :
    Calls Try.prog 28 #[.int .i64 m, .agg #[.int .i64 (f 0), .int .i64 (f 1), .int .i64 (f 2), .int .i64 (f 3), .int .i64 (f 4), .int .i64 (f 5), .int .i64 (f 6), .int .i64 (f 7), .int .i64 (f 8), .int .i64 (f 9), .int .i64 (f 10), .int .i64 (f 11)], va] w fun e w' => e = .returned (.tuple #[.agg #[.int .i64 (Gate.relay m f l m 0), .int .i64 (Gate.relay m f l m 1), .int .i64 (Gate.relay m f l m 2), .int .i64 (Gate.relay m f l m 3), .int .i64 (Gate.relay m f l m 4), .int .i64 (Gate.relay m f l m 5), .int .i64 (Gate.relay m f l m 6), .int .i64 (Gate.relay m f l m 7), .int .i64 (Gate.relay m f l m 8), .int .i64 (Gate.relay m f l m 9), .int .i64 (Gate.relay m f l m 10), .int .i64 (Gate.relay m f l m 11)], .agg #[.int .i64 (Gate.relayed m f l m 0), .int .i64 (Gate.relayed m f l m 1)]]) ∧ Below w.heap.size w w' := by
  obtain ⟨hok, hfit⟩ := Gate.wrong_of h
  have h38 := hok.1
  have h11 := hok.2.2.2.2.2
  have CB := Lib.hid (fun w => block_val m _ (Conf.tm_yes (Conf.right_spec.2 h38)) w)
  have hport : Gate.port f l m = (f 11).toNat := by unfold Gate.port; rw [if_pos h0]
  have hPm : (f 11).toNat < m := by omega
  have HAT := Lib.hid (hfit.2.2 _ hPm)
  have HW : Hid (Gate.way m f l m = if l ((f 11).toNat * 2) = 2 then 1 else 0) := by
    show Gate.way m f l m = _
    unfold Gate.way
    rw [if_pos h0]
  have HL := Lib.hid hl
  obtain ⟨p1, c1, rfl⟩ := hl.form
  have hI : f 11 < m := by omega
  have hI0 : 0 ≤ f 11 := h11.1
  obtain ⟨b1, o1, rfl, hl1, hc1⟩ := HL.out.some (by omega)
  have HC := Lib.hid hc1
  have hf11 : f 11 = ((f 11).toNat : Nat) := by omega
  have HP := Lib.hid hf11
  have CI := Lib.hid (fun w => gInfo_any (f 11) w)
  clear hl h hok hfit h0 h11 hc1 hf11
  by_cases hk : l ((f 11).toNat * 2) = 2
  · have hway : Gate.way m f l m = 1 := by rw [HW.out, if_pos hk]
    obtain ⟨hg, hr⟩ := relay_info hway
    rw [hport] at hr
    have hi := at_two HAT.out hk
    have HG := Lib.hid hg
    rw [show Gate.relayed m f l m 0 = 2 from (hr 0).trans hk, show Gate.relayed m f l m 1 = f 11 from (hr 1).trans (hi.trans HP.out.symm)]
    have HK := Lib.hid hk
    have HK1 : Hid (l ((f 11).toNat * 2 + 1) = f 11) := hi.trans HP.out.symm
    generalize Gate.relay m f l m = g at *
    clear hway hg hr hport HW hk hi HAT
    go_enter Try.func28, Try.ntmps28
    go_upto_region 1 with fail
    have HX0 := Lib.hid (((Ints.box w f 24).alloc (.cells #[.int .i64 ((fun _ => (0 : Int)) 0), .int .i64 ((fun _ => (0 : Int)) 1), .int .i64 ((fun _ => (0 : Int)) 2), .int .i64 ((fun _ => (0 : Int)) 3), .int .i64 ((fun _ => (0 : Int)) 4), .int .i64 ((fun _ => (0 : Int)) 5), .int .i64 ((fun _ => (0 : Int)) 6), .int .i64 ((fun _ => (0 : Int)) 7), .int .i64 ((fun _ => (0 : Int)) 8), .int .i64 ((fun _ => (0 : Int)) 9), .int .i64 ((fun _ => (0 : Int)) 10), .int .i64 ((fun _ => (0 : Int)) 11)] 24)).alloc (.cells #[.int .i64 0, .int .i64 0] 32))
    have HZ0 := Lib.hid ((Ints.zeros (w.alloc (.cells #[.int .i64 (f 0), .int .i64 (f 1), .int .i64 (f 2), .int .i64 (f 3), .int .i64 (f 4), .int .i64 (f 5), .int .i64 (f 6), .int .i64 (f 7), .int .i64 (f 8), .int .i64 (f 9), .int .i64 (f 10), .int .i64 (f 11)] 24)) 24).alloc (.cells #[.int .i64 0, .int .i64 0] 32))
    have HF0 := Lib.hid (Ints.two ((w.alloc (.cells #[.int .i64 (f 0), .int .i64 (f 1), .int .i64 (f 2), .int .i64 (f 3), .int .i64 (f 4), .int .i64 (f 5), .int .i64 (f 6), .int .i64 (f 7), .int .i64 (f 8), .int .i64 (f 9), .int .i64 (f 10), .int .i64 (f 11)] 24)).alloc (.cells #[.int .i64 ((fun _ => (0 : Int)) 0), .int .i64 ((fun _ => (0 : Int)) 1), .int .i64 ((fun _ => (0 : Int)) 2), .int .i64 ((fun _ => (0 : Int)) 3), .int .i64 ((fun _ => (0 : Int)) 4), .int .i64 ((fun _ => (0 : Int)) 5), .int .i64 ((fun _ => (0 : Int)) 6), .int .i64 ((fun _ => (0 : Int)) 7), .int .i64 ((fun _ => (0 : Int)) 8), .int .i64 ((fun _ => (0 : Int)) 9), .int .i64 ((fun _ => (0 : Int)) 10), .int .i64 ((fun _ => (0 : Int)) 11)] 24)) 0 0 32 (fun _ => 0) rfl rfl)
    simp only [World.size_alloc] at HX0 HZ0 HF0
    have HB0 := Lib.hid (show Below w.heap.size w (((w.alloc (.cells #[.int .i64 (f 0), .int .i64 (f 1), .int .i64 (f 2), .int .i64 (f 3), .int .i64 (f 4), .int .i64 (f 5), .int .i64 (f 6), .int .i64 (f 7), .int .i64 (f 8), .int .i64 (f 9), .int .i64 (f 10), .int .i64 (f 11)] 24)).alloc (.cells #[.int .i64 ((fun _ => (0 : Int)) 0), .int .i64 ((fun _ => (0 : Int)) 1), .int .i64 ((fun _ => (0 : Int)) 2), .int .i64 ((fun _ => (0 : Int)) 3), .int .i64 ((fun _ => (0 : Int)) 4), .int .i64 ((fun _ => (0 : Int)) 5), .int .i64 ((fun _ => (0 : Int)) 6), .int .i64 ((fun _ => (0 : Int)) 7), .int .i64 ((fun _ => (0 : Int)) 8), .int .i64 ((fun _ => (0 : Int)) 9), .int .i64 ((fun _ => (0 : Int)) 10), .int .i64 ((fun _ => (0 : Int)) 11)] 24)).alloc (.cells #[.int .i64 0, .int .i64 0] 32)) from bel)
    have hsz : (((w.alloc (.cells #[.int .i64 (f 0), .int .i64 (f 1), .int .i64 (f 2), .int .i64 (f 3), .int .i64 (f 4), .int .i64 (f 5), .int .i64 (f 6), .int .i64 (f 7), .int .i64 (f 8), .int .i64 (f 9), .int .i64 (f 10), .int .i64 (f 11)] 24)).alloc (.cells #[.int .i64 ((fun _ => (0 : Int)) 0), .int .i64 ((fun _ => (0 : Int)) 1), .int .i64 ((fun _ => (0 : Int)) 2), .int .i64 ((fun _ => (0 : Int)) 3), .int .i64 ((fun _ => (0 : Int)) 4), .int .i64 ((fun _ => (0 : Int)) 5), .int .i64 ((fun _ => (0 : Int)) 6), .int .i64 ((fun _ => (0 : Int)) 7), .int .i64 ((fun _ => (0 : Int)) 8), .int .i64 ((fun _ => (0 : Int)) 9), .int .i64 ((fun _ => (0 : Int)) 10), .int .i64 ((fun _ => (0 : Int)) 11)] 24)).alloc (.cells #[.int .i64 0, .int .i64 0] 32)).heap.size = w.heap.size + 3 := by simp
    generalize World.alloc _ _ = w1 at *
    have c11 := (HX0.out.2 11 (by decide)).1
    obtain ⟨k0, k1⟩ := two_cells HC.out HB0.out hPm
    rw [HK.out] at k0
    rw [HK1.out] at k1
    have zx := HX0.out.1
    go_upto_region 2 with fail
    generalize hw2 : World.alloc _ _ = w2
    have HF2 := Lib.hid (show Ints w2 (w.heap.size + 3) 2 (fr2 2 (f 11)) from by rw [← hw2, ← hsz]; exact Ints.two w1 2 (f 11) 32 _ rfl rfl)
    have HX2 := Lib.hid (show Ints w2 w.heap.size 12 f from by rw [← hw2]; exact HX0.out.alloc _)
    have HZ2 := Lib.hid (show Ints w2 (w.heap.size + 1) 12 (fun _ => 0) from by rw [← hw2]; exact HZ0.out.alloc _)
    have HT2 := Lib.hid (show Ints w2 (w.heap.size + 1 + 1) 2 (fun _ => 0) from by rw [← hw2]; exact HF0.out.alloc _)
    have HB2 := Lib.hid (show Below w.heap.size w w2 from by rw [← hw2]; exact kalloc HB0.out _)
    clear hw2 hsz c11 k0 k1 zx HX0 HZ0 HF0 HB0
    refine region_below (by kernel_rfl) (by kernel_rfl) ?_; intro wR HW
    have HBR := Lib.hid (show Below w.heap.size w wR from by rw [← HW.out]; exact HB2.out)
    have HFR := Lib.hid (show Ints wR (w.heap.size + 3) 2 (fr2 2 (f 11)) from by rw [← HW.out]; exact HF2.out)
    have HXR := Lib.hid (show Ints wR w.heap.size 12 f from by rw [← HW.out]; exact HX2.out)
    have HZR := Lib.hid (show Ints wR (w.heap.size + 1) 12 (fun _ => 0) from by rw [← HW.out]; exact HZ2.out)
    have HTR := Lib.hid (show Ints wR (w.heap.size + 1 + 1) 2 (fun _ => 0) from by rw [← HW.out]; exact HT2.out)
    clear HW HB2 HF2 HX2 HZ2 HT2
    have c0 := cell_regrown (show wR.cell? ⟨w.heap.size + 3, 0, none⟩ = some (.int .i64 2) from (HFR.out.2 0 (by decide)).1)
    have c1 := cell_regrown (show wR.cell? ⟨w.heap.size + 3, 1, none⟩ = some (.int .i64 (f 11)) from (HFR.out.2 1 (by decide)).1)
    have c11 := cell_regrown (HXR.out.2 11 (by decide)).1
    have zr := HFR.out.1
    (repeat (first | go_big_quiet_step (with_reducible exact Calls.regrown_of (CI.out _)) | quiet_step (with_reducible exact Calls.regrown_of (CI.out _)))); refine wpQuiet_nil ?_; intro w2 hb2
    have HB2 := Lib.hid (show Below w.heap.size w w2 from by have := HBR.out; exact bthru hb2 this)
    have HF2 := Lib.hid (HFR.out.below hb2)
    have HX2 := Lib.hid (HXR.out.below hb2)
    have HZ2 := Lib.hid (HZR.out.below hb2)
    have HT2 := Lib.hid (HTR.out.below hb2)
    clear hb2 HBR HFR HXR HZR HTR c0 c1 c11 zr
    go_wp2_with fail
    refine (CB.out _).mono ?_; rintro e w3 ⟨rfl, hb⟩; have hz := hb.size; (try simp only [World.size_alloc, World.heap_drewN, World.size_drew, World.size_setCell] at hz)
    have HB3 := Lib.hid (show Below w.heap.size w w3 from by have := HB2.out; exact bel)
    have HF3 := Lib.hid (HF2.out.below hb)
    have HX3 := Lib.hid (HX2.out.below hb)
    have HZ3 := Lib.hid (HZ2.out.below hb)
    have HT3 := Lib.hid (HT2.out.below hb)
    clear hb HB2 HF2 HX2 HZ2 HT2
    obtain ⟨c10, f10⟩ := HX3.out.2 10 (by decide)
    have zx := HX3.out.1
    go_upto_region 5 with fail
    generalize hw4 : World.setCell _ _ _ = w4
    have HX4 := Lib.hid (show Ints w4 w.heap.size 12 g from by rw [← hw4]; exact HX3.out.set 10 (2 * m) (by omega) _ HG.out)
    have HZ4 := Lib.hid (show Ints w4 (w.heap.size + 1) 12 (fun _ => 0) from by rw [← hw4]; exact HZ3.out.other _ _ _ (by omega))
    have HT4 := Lib.hid (show Ints w4 (w.heap.size + 1 + 1) 2 (fun _ => 0) from by rw [← hw4]; exact HT3.out.other _ _ _ (by omega))
    have HF4 := Lib.hid (show Ints w4 (w.heap.size + 3) 2 (fr2 2 (f 11)) from by rw [← hw4]; exact HF3.out.other _ _ _ (by omega))
    have HB4 := Lib.hid (show Below w.heap.size w w4 from by have := HB3.out; rw [← hw4]; exact bel)
    clear hw4 HX3 HZ3 HT3 HF3 HB3 c10 f10 zx
    have H4 : Four w.heap.size (w.heap.size + 3) (w.heap.size + 1) (w.heap.size + 1 + 1) g 2 (f 11) w4 := ⟨HX4.out, HF4.out, ⟨_, HZ4.out⟩, ⟨_, HT4.out⟩⟩
    clear HX4 HF4 HZ4 HT4
    refine wp_region_held_drew (S := Four (w.heap.size) (w.heap.size + 3) (w.heap.size + 1) (w.heap.size + 1 + 1) (g) (2) (f 11)) (by kernel_rfl) (Four.drew H4) (fun hS => ?_); refine anyH_load (i := 0) rfl (by kernel_rfl) (by kernel_rfl) (by kernel_rfl) _ _ (w.heap.size) 0 (hubL (g)) _ (fun _ _ _ h => h) (by rfl) rfl rfl (fun w h => hubL_row h.hub) Try.underlying24 rfl (by kernel_rfl) hS ?_; simp only [Act.put, List.getElem_toArray, List.getElem_cons_zero, List.getElem_cons_succ, List.setIfInBounds_toArray, List.set_cons_zero, List.set_cons_succ]; refine anyH_load (i := 1) rfl (by kernel_rfl) (by kernel_rfl) (by kernel_rfl) _ _ (w.heap.size + 3) 0 (frL (2) (f 11)) _ (fun _ _ _ h => h) (by rfl) rfl rfl (fun w h => frL_row h.fr) Try.underlying32 rfl (by kernel_rfl) hS ?_; simp only [Act.put, List.getElem_toArray, List.getElem_cons_zero, List.getElem_cons_succ, List.setIfInBounds_toArray, List.set_cons_zero, List.set_cons_succ]; refine anyH_store (k := 2) rfl (by kernel_rfl) _ _ _ (w.heap.size + 1) 0 (hubL (g)).toArray (by rfl) rfl rfl rfl (Exists.choose_spec hS.hub2).there (by kernel_rfl) (hubL_one (g)) (hS.one (by omega) (by omega) (by omega) _) ?_; simp only [Act.put, List.getElem_toArray, List.getElem_cons_zero, List.getElem_cons_succ, List.setIfInBounds_toArray, List.set_cons_zero, List.set_cons_succ]; have hSa := hS.one (g := g) (by omega) (by omega) (by omega); have hXa := (Exists.choose_spec hS.hub2).cells12 (g); have hBa := Lib.hid (below_cells (B := w.heap.size) (b := w.heap.size + 1) (a := w) (by omega) (hubL (g)) 0 _ (kept_drew1 HB4.out)); generalize hwa : World.setCells _ _ _ _ = wa at *; clear hwa; refine anyH_store (k := 3) rfl (by kernel_rfl) _ _ _ (w.heap.size + 1 + 1) 0 (frL (2) (f 11)).toArray (by rfl) rfl rfl rfl (Exists.choose_spec hSa.fr2).there (by kernel_rfl) (frL_one (2) (f 11)) (hSa.two (by omega) (by omega) (by omega) _ _) ?_; simp only [Act.put, List.getElem_toArray, List.getElem_cons_zero, List.getElem_cons_succ, List.setIfInBounds_toArray, List.set_cons_zero, List.set_cons_succ]; have hFb := (Exists.choose_spec hSa.fr2).cells2 (2) (f 11); have hXb := Ints.apart (w.heap.size + 1 + 1) (by omega) (frL (2) (f 11)) 0 _ hXa; have hBb := Lib.hid (below_cells (B := w.heap.size) (b := w.heap.size + 1 + 1) (a := w) (by omega) (frL (2) (f 11)) 0 _ hBa.out); have hSb := hSa.two (x := 2) (y := f 11) (by omega) (by omega) (by omega); generalize hwb : World.setCells _ _ _ _ = wb at *; clear hwb hSa hXa hBa; refine wpAnyH_done (by kernel_rfl) ?_ _
    go_wp2
    refine bodyPost_ret (ret_cell2 Try.results28 (w.heap.size + 1) (hubL (g)) _ (w.heap.size + 1 + 1) (frL (2) (f 11)) _ rfl rfl (hubL_row hXb) Try.underlying24 rfl (by kernel_rfl) (frL_row hFb) Try.underlying32 rfl (by kernel_rfl)) rfl ⟨rfl, hBb.out⟩
  · have hway : Gate.way m f l m = 0 := by rw [HW.out, if_neg hk]
    obtain ⟨hg, hr⟩ := relay_none hway
    rw [hg, hr]
    have hk2 : (l ((f 11).toNat * 2) == 2) = false := by simp [hk]
    clear hway hg hr hport HW hk HAT
    have HK' : ∃ k, l ((f 11).toNat * 2) = k := ⟨_, rfl⟩
    obtain ⟨k, hk0⟩ := HK'
    have HK1' : ∃ i, l ((f 11).toNat * 2 + 1) = i := ⟨_, rfl⟩
    obtain ⟨i, hk1⟩ := HK1'
    rw [hk0] at hk2
    have HK := Lib.hid hk0
    have HK1 := Lib.hid hk1
    clear hk0 hk1
    go_enter Try.func28, Try.ntmps28
    go_upto_region 1 with fail
    have HX0 := Lib.hid (((Ints.box w f 24).alloc (.cells #[.int .i64 ((fun _ => (0 : Int)) 0), .int .i64 ((fun _ => (0 : Int)) 1), .int .i64 ((fun _ => (0 : Int)) 2), .int .i64 ((fun _ => (0 : Int)) 3), .int .i64 ((fun _ => (0 : Int)) 4), .int .i64 ((fun _ => (0 : Int)) 5), .int .i64 ((fun _ => (0 : Int)) 6), .int .i64 ((fun _ => (0 : Int)) 7), .int .i64 ((fun _ => (0 : Int)) 8), .int .i64 ((fun _ => (0 : Int)) 9), .int .i64 ((fun _ => (0 : Int)) 10), .int .i64 ((fun _ => (0 : Int)) 11)] 24)).alloc (.cells #[.int .i64 0, .int .i64 0] 32))
    have HZ0 := Lib.hid ((Ints.zeros (w.alloc (.cells #[.int .i64 (f 0), .int .i64 (f 1), .int .i64 (f 2), .int .i64 (f 3), .int .i64 (f 4), .int .i64 (f 5), .int .i64 (f 6), .int .i64 (f 7), .int .i64 (f 8), .int .i64 (f 9), .int .i64 (f 10), .int .i64 (f 11)] 24)) 24).alloc (.cells #[.int .i64 0, .int .i64 0] 32))
    have HF0 := Lib.hid (Ints.two ((w.alloc (.cells #[.int .i64 (f 0), .int .i64 (f 1), .int .i64 (f 2), .int .i64 (f 3), .int .i64 (f 4), .int .i64 (f 5), .int .i64 (f 6), .int .i64 (f 7), .int .i64 (f 8), .int .i64 (f 9), .int .i64 (f 10), .int .i64 (f 11)] 24)).alloc (.cells #[.int .i64 ((fun _ => (0 : Int)) 0), .int .i64 ((fun _ => (0 : Int)) 1), .int .i64 ((fun _ => (0 : Int)) 2), .int .i64 ((fun _ => (0 : Int)) 3), .int .i64 ((fun _ => (0 : Int)) 4), .int .i64 ((fun _ => (0 : Int)) 5), .int .i64 ((fun _ => (0 : Int)) 6), .int .i64 ((fun _ => (0 : Int)) 7), .int .i64 ((fun _ => (0 : Int)) 8), .int .i64 ((fun _ => (0 : Int)) 9), .int .i64 ((fun _ => (0 : Int)) 10), .int .i64 ((fun _ => (0 : Int)) 11)] 24)) 0 0 32 (fun _ => 0) rfl rfl)
    simp only [World.size_alloc] at HX0 HZ0 HF0
    have HB0 := Lib.hid (show Below w.heap.size w (((w.alloc (.cells #[.int .i64 (f 0), .int .i64 (f 1), .int .i64 (f 2), .int .i64 (f 3), .int .i64 (f 4), .int .i64 (f 5), .int .i64 (f 6), .int .i64 (f 7), .int .i64 (f 8), .int .i64 (f 9), .int .i64 (f 10), .int .i64 (f 11)] 24)).alloc (.cells #[.int .i64 ((fun _ => (0 : Int)) 0), .int .i64 ((fun _ => (0 : Int)) 1), .int .i64 ((fun _ => (0 : Int)) 2), .int .i64 ((fun _ => (0 : Int)) 3), .int .i64 ((fun _ => (0 : Int)) 4), .int .i64 ((fun _ => (0 : Int)) 5), .int .i64 ((fun _ => (0 : Int)) 6), .int .i64 ((fun _ => (0 : Int)) 7), .int .i64 ((fun _ => (0 : Int)) 8), .int .i64 ((fun _ => (0 : Int)) 9), .int .i64 ((fun _ => (0 : Int)) 10), .int .i64 ((fun _ => (0 : Int)) 11)] 24)).alloc (.cells #[.int .i64 0, .int .i64 0] 32)) from bel)
    have hsz : (((w.alloc (.cells #[.int .i64 (f 0), .int .i64 (f 1), .int .i64 (f 2), .int .i64 (f 3), .int .i64 (f 4), .int .i64 (f 5), .int .i64 (f 6), .int .i64 (f 7), .int .i64 (f 8), .int .i64 (f 9), .int .i64 (f 10), .int .i64 (f 11)] 24)).alloc (.cells #[.int .i64 ((fun _ => (0 : Int)) 0), .int .i64 ((fun _ => (0 : Int)) 1), .int .i64 ((fun _ => (0 : Int)) 2), .int .i64 ((fun _ => (0 : Int)) 3), .int .i64 ((fun _ => (0 : Int)) 4), .int .i64 ((fun _ => (0 : Int)) 5), .int .i64 ((fun _ => (0 : Int)) 6), .int .i64 ((fun _ => (0 : Int)) 7), .int .i64 ((fun _ => (0 : Int)) 8), .int .i64 ((fun _ => (0 : Int)) 9), .int .i64 ((fun _ => (0 : Int)) 10), .int .i64 ((fun _ => (0 : Int)) 11)] 24)).alloc (.cells #[.int .i64 0, .int .i64 0] 32)).heap.size = w.heap.size + 3 := by simp
    generalize World.alloc _ _ = w1 at *
    have c11 := (HX0.out.2 11 (by decide)).1
    obtain ⟨k0, k1⟩ := two_cells HC.out HB0.out hPm
    rw [HK.out] at k0
    rw [HK1.out] at k1
    have zx := HX0.out.1
    go_upto_region 2 with fail
    generalize hw2 : World.alloc _ _ = w2
    have HF2 := Lib.hid (show Ints w2 (w.heap.size + 3) 2 (fr2 k i) from by rw [← hw2, ← hsz]; exact Ints.two w1 k i 32 _ rfl rfl)
    have HX2 := Lib.hid (show Ints w2 w.heap.size 12 f from by rw [← hw2]; exact HX0.out.alloc _)
    have HZ2 := Lib.hid (show Ints w2 (w.heap.size + 1) 12 (fun _ => 0) from by rw [← hw2]; exact HZ0.out.alloc _)
    have HT2 := Lib.hid (show Ints w2 (w.heap.size + 1 + 1) 2 (fun _ => 0) from by rw [← hw2]; exact HF0.out.alloc _)
    have HB2 := Lib.hid (show Below w.heap.size w w2 from by rw [← hw2]; exact kalloc HB0.out _)
    clear hw2 hsz c11 k0 k1 zx HX0 HZ0 HF0 HB0
    refine region_below (by kernel_rfl) (by kernel_rfl) ?_; intro wR HW
    have HBR := Lib.hid (show Below w.heap.size w wR from by rw [← HW.out]; exact HB2.out)
    have HFR := Lib.hid (show Ints wR (w.heap.size + 3) 2 (fr2 k i) from by rw [← HW.out]; exact HF2.out)
    have HXR := Lib.hid (show Ints wR w.heap.size 12 f from by rw [← HW.out]; exact HX2.out)
    have HZR := Lib.hid (show Ints wR (w.heap.size + 1) 12 (fun _ => 0) from by rw [← HW.out]; exact HZ2.out)
    have HTR := Lib.hid (show Ints wR (w.heap.size + 1 + 1) 2 (fun _ => 0) from by rw [← HW.out]; exact HT2.out)
    clear HW HB2 HF2 HX2 HZ2 HT2
    have c0 := cell_regrown (show wR.cell? ⟨w.heap.size + 3, 0, none⟩ = some (.int .i64 k) from (HFR.out.2 0 (by decide)).1)
    have c1 := cell_regrown (show wR.cell? ⟨w.heap.size + 3, 1, none⟩ = some (.int .i64 i) from (HFR.out.2 1 (by decide)).1)
    have c11 := cell_regrown (HXR.out.2 11 (by decide)).1
    have zr := HFR.out.1
    (repeat (first | go_big_quiet_step (with_reducible exact Calls.regrown_of (CI.out _)) | quiet_step (with_reducible exact Calls.regrown_of (CI.out _)))); refine wpQuiet_nil ?_; intro w2 hb2
    have HB2 := Lib.hid (show Below w.heap.size w w2 from by have := HBR.out; exact bthru hb2 this)
    have HF2 := Lib.hid (HFR.out.below hb2)
    have HX2 := Lib.hid (HXR.out.below hb2)
    have HZ2 := Lib.hid (HZR.out.below hb2)
    have HT2 := Lib.hid (HTR.out.below hb2)
    clear hb2 HBR HFR HXR HZR HTR c0 c1 c11 zr
    have HX2_c0 := (HX2.out.2 0 (by decide)).1; have HX2_c1 := (HX2.out.2 1 (by decide)).1; have HX2_c2 := (HX2.out.2 2 (by decide)).1; have HX2_c3 := (HX2.out.2 3 (by decide)).1; have HX2_c4 := (HX2.out.2 4 (by decide)).1; have HX2_c5 := (HX2.out.2 5 (by decide)).1; have HX2_c6 := (HX2.out.2 6 (by decide)).1; have HX2_c7 := (HX2.out.2 7 (by decide)).1; have HX2_c8 := (HX2.out.2 8 (by decide)).1; have HX2_c9 := (HX2.out.2 9 (by decide)).1; have HX2_c10 := (HX2.out.2 10 (by decide)).1; have HX2_c11 := (HX2.out.2 11 (by decide)).1; have HX2_z := HX2.out.1
    have HZ2_r := HZ2.out.row12; have HZ2_c0 := (HZ2.out.2 0 (by decide)).1; have HZ2_f0 := (HZ2.out.2 0 (by decide)).2; have HZ2_c1 := (HZ2.out.2 1 (by decide)).1; have HZ2_f1 := (HZ2.out.2 1 (by decide)).2; have HZ2_c2 := (HZ2.out.2 2 (by decide)).1; have HZ2_f2 := (HZ2.out.2 2 (by decide)).2; have HZ2_c3 := (HZ2.out.2 3 (by decide)).1; have HZ2_f3 := (HZ2.out.2 3 (by decide)).2; have HZ2_c4 := (HZ2.out.2 4 (by decide)).1; have HZ2_f4 := (HZ2.out.2 4 (by decide)).2; have HZ2_c5 := (HZ2.out.2 5 (by decide)).1; have HZ2_f5 := (HZ2.out.2 5 (by decide)).2; have HZ2_c6 := (HZ2.out.2 6 (by decide)).1; have HZ2_f6 := (HZ2.out.2 6 (by decide)).2; have HZ2_c7 := (HZ2.out.2 7 (by decide)).1; have HZ2_f7 := (HZ2.out.2 7 (by decide)).2; have HZ2_c8 := (HZ2.out.2 8 (by decide)).1; have HZ2_f8 := (HZ2.out.2 8 (by decide)).2; have HZ2_c9 := (HZ2.out.2 9 (by decide)).1; have HZ2_f9 := (HZ2.out.2 9 (by decide)).2; have HZ2_c10 := (HZ2.out.2 10 (by decide)).1; have HZ2_f10 := (HZ2.out.2 10 (by decide)).2; have HZ2_c11 := (HZ2.out.2 11 (by decide)).1; have HZ2_f11 := (HZ2.out.2 11 (by decide)).2; have HZ2_z := HZ2.out.1
    obtain ⟨a0, b0⟩ := HT2.out.2 0 (by decide)
    obtain ⟨a1, b1'⟩ := HT2.out.2 1 (by decide)
    have ar := HT2.out.row2
    have az := HT2.out.1
    have := HB2.out
    go_wp2
    generalize hwf : World.setCell _ _ _ = wf
    have r1 : Ints wf (w.heap.size + 1) 12 f := by rw [← hwf]; exact ((HZ2.out.set12 f).other _ _ _ (by omega)).other _ _ _ (by omega)
    have r2 : Ints wf (w.heap.size + 1 + 1) 2 (fr2 0 0) := by rw [← hwf]; exact ((HT2.out.other12 _ f (by omega)).set 0 0 (by decide) (fun j => if j = 0 then 0 else 0) (fun j => by simp)).set 1 0 (by decide) _ (fun j => by unfold fr2; simp)
    have r3 : Below w.heap.size w wf := by rw [← hwf]; exact bel
    refine bodyPost_ret (ret_cell2 Try.results28 (w.heap.size + 1) (hubL (f)) _ (w.heap.size + 1 + 1) (frL (0) (0)) _ rfl rfl (hubL_row r1) Try.underlying24 rfl (by kernel_rfl) (frL_row r2) Try.underlying32 rfl (by kernel_rfl)) rfl ⟨rfl, r3⟩
end Go.Proofs.Ytijgabippedhpaa
