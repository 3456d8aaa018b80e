
import Derived.Test.YtijgabippedhpaaRows
import Derived.Test.YtijgabippedhpaaGateC
namespace Go.Proofs.Ytijgabippedhpaa
set_option linter.unusedVariables false
set_option linter.unusedSimpArgs false
open Go.ChangeShapes Go.WideShapes Go.RowKit

theorem ret_cell2_tmp {P : Program} {fn : Func} {p q u : Tmp} {ty ty2 : TypeId} (h : fn.results = #[.cell p ty, .cell q ty2, .tmp u]) {tmps : Array Value} {w : World} (b : Nat) (cs : List Value) (d : TypeDesc) (b2 : Nat) (cs2 : List Value) (d2 : TypeDesc)
    (hp : tmps.getD p undef = .pointer (some ⟨b, 0, none⟩)) (hq : tmps.getD q undef = .pointer (some ⟨b2, 0, none⟩)) (hc : w.rangeAt b 0 cs) (hu : P.underlying ty = some d) (hd : d.isRow = true) (hi : (P.info? ty).map (·.size) = some cs.length)
    (hc2 : w.rangeAt b2 0 cs2) (hu2 : P.underlying ty2 = some d2) (hd2 : d2.isRow = true) (hi2 : (P.info? ty2).map (·.size) = some cs2.length) :
    (results fn tmps).run P w = .ok (.tuple #[.agg cs.toArray, .agg cs2.toArray, tmps.getD u undef]) w := by
  have hp' : tmps[p]?.getD undef = .pointer (some ⟨b, 0, none⟩) := by simpa using hp
  have hq' : tmps[q]?.getD undef = .pointer (some ⟨b2, 0, none⟩) := by simpa using hq
  simp only [results, h]
  simp [Sem.run_bind, hp', hq', asAddr, run_loadVar_mid w b 0 ty cs d hc hu hd hi, run_loadVar_mid w b2 0 ty2 cs2 d2 hc2 hu2 hd2 hi2]
theorem Ints.two (w : World) (x y : Int) (t : TypeId) (f : Nat → Int) (h0 : f 0 = x) (h1 : f 1 = y) : Ints (w.alloc (.cells #[.int .i64 x, .int .i64 y] t)) w.heap.size 2 f := by
  refine ⟨by simp, fun j hj => ⟨?_, World.frozen?_alloc_at _ t _ j rfl⟩⟩
  refine range_cell (range_new w #[.int .i64 x, .int .i64 y] t) j ?_
  have h2 : j = 0 ∨ j = 1 := by omega
  rcases h2 with rfl | rfl
  · rw [h0]; rfl
  · rw [h1]; rfl
theorem Ints.row2 {w : World} {b : Nat} {f : Nat → Int} (h : Ints w b 2 f) : w.rangeAt b 0 [.int .i64 (f 0), .int .i64 (f 1)] := by
  intro j v hj
  have hj2 : j < 2 := by
    have := (List.getElem?_eq_some_iff.1 hj).1
    simpa using this
  have e := (h.2 j hj2).1
  rw [Nat.zero_add, e]
  have h2 : j = 0 ∨ j = 1 := by omega
  rcases h2 with rfl | rfl <;> exact hj
theorem first_at {l : Nat → Int} {m K d : Nat} (hd : d ≤ m) (hK : K < m) (hmd : m - d ≤ K) (h1 : l (K * 2) = 1) (hno : ∀ p, p < K → l (p * 2) ≠ 1) : Gate.first l m d = K := by
  induction d with
  | zero => omega
  | succ d ih =>
    unfold Gate.first
    by_cases e : m - (d + 1) = K
    · rw [e, if_pos h1]
    · rw [if_neg (hno _ (by omega))]
      exact ih (by omega) (by omega)
theorem first_none {l : Nat → Int} {m d : Nat} (hd : d ≤ m) (hno : ∀ p, p < m → l (p * 2) ≠ 1) : Gate.first l m d = m := by
  induction d with
  | zero => rfl
  | succ d ih =>
    unfold Gate.first
    rw [if_neg (hno _ (by omega))]
    exact ih (by omega)
/-- Of Relay: nothing beside an error. -/
def relayH (n : Int) (f : Nat → Int) (m : Nat) (l : Nat → Int) (j : Nat) : Int := if Gate.wrong n f m l = 0 then Gate.relay n f l m j else 0
def relayF (n : Int) (f : Nat → Int) (m : Nat) (l : Nat → Int) (i : Nat) : Int := if Gate.wrong n f m l = 0 then Gate.relayed n f l m i else 0
theorem relayH_yes {n : Int} {f : Nat → Int} {m : Nat} {l : Nat → Int} (h : Gate.wrong n f m l = 0) : relayH n f m l = Gate.relay n f l m := funext fun _ => if_pos h
theorem relayF_yes {n : Int} {f : Nat → Int} {m : Nat} {l : Nat → Int} (h : Gate.wrong n f m l = 0) : relayF n f m l = Gate.relayed n f l m := funext fun _ => if_pos h
theorem relayH_no {n : Int} {f : Nat → Int} {m : Nat} {l : Nat → Int} (h : ¬ Gate.wrong n f m l = 0) (j : Nat) : relayH n f m l j = 0 := if_neg h
theorem relayF_no {n : Int} {f : Nat → Int} {m : Nat} {l : Nat → Int} (h : ¬ Gate.wrong n f m l = 0) (j : Nat) : relayF n f m l j = 0 := if_neg h
theorem relay_none {n : Int} {f l : Nat → Int} {m : Nat} (h : Gate.way n f l m = 0) : Gate.relay n f l m = f ∧ Gate.relayed n f l m = fun _ => 0 := by
  constructor
  · funext j; unfold Gate.relay; rw [h]; rfl
  · funext i; unfold Gate.relayed; rw [if_pos h]
theorem relay_info {n : Int} {f l : Nat → Int} {m : Nat} (h : Gate.way n f l m = 1) : (∀ j, Gate.relay n f l m j = if j = 10 then 2 * n else f j) ∧ ∀ i, Gate.relayed n f l m i = l (Gate.port f l m * 2 + i) := by
  constructor
  · intro j; unfold Gate.relay; rw [if_pos h]
  · intro i; unfold Gate.relayed; rw [if_neg (by omega)]
theorem relay_cs {n : Int} {f l : Nat → Int} {m : Nat} (h : Gate.way n f l m = 2) : (∀ j, Gate.relay n f l m j = if j < 8 then Vote.most n j else if j = 8 then (Gate.port f l m : Nat) else if j = 9 then 0 else f j) ∧ ∀ i, Gate.relayed n f l m i = l (Gate.port f l m * 2 + i) := by
  constructor
  · intro j; unfold Gate.relay; rw [if_neg (by omega), if_pos h]
  · intro i; unfold Gate.relayed; rw [if_neg (by omega)]
set_option maxHeartbeats 4000000 in
theorem refGRelay_no (n : Int) (f : Nat → Int) (va : Value) (m : Nat) (l : Nat → Int) (w : World) (hm : m ≤ maxLen) (hl : Prs w va m l) (h : ¬ Gate.wrong n f m l = 0) :
    Calls Try.prog 13 #[.int .i64 n, .agg #[.int .i64 (f 0), .int .i64 (f 1), .int .i64 (f 2), .int .i64 (f 3), .int .i64 (f 4), .int .i64 (f 5), .int .i64 (f 6), .int .i64 (f 7), .int .i64 (f 8), .int .i64 (f 9), .int .i64 (f 10), .int .i64 (f 11)], va] w fun e w' => e = .returned (.tuple #[.agg #[.int .i64 (relayH n f m l 0), .int .i64 (relayH n f m l 1), .int .i64 (relayH n f m l 2), .int .i64 (relayH n f m l 3), .int .i64 (relayH n f m l 4), .int .i64 (relayH n f m l 5), .int .i64 (relayH n f m l 6), .int .i64 (relayH n f m l 7), .int .i64 (relayH n f m l 8), .int .i64 (relayH n f m l 9), .int .i64 (relayH n f m l 10), .int .i64 (relayH n f m l 11)], .agg #[.int .i64 (relayF n f m l 0), .int .i64 (relayF n f m l 1)], .int .i64 (Gate.wrong n f m l)]) ∧ Below w.heap.size w w' := by
  obtain ⟨p1, c1, rfl⟩ := hl.form
  have CW := Lib.hid (fun w hl => refWrong_any n f (.slice p1 m c1) m l w hm hl)
  simp only [relayH_no h, relayF_no h]
  generalize Gate.wrong n f m l = er at *
  have e0 : (er != 0) = true := by simp [h]
  have HL := Lib.hid hl
  clear hl h
  go_enter Try.func13, Try.ntmps13
  go_wp2_with fail
  have HZ0 := Lib.hid ((Ints.zeros (w.alloc (.cells #[.int .i64 (f 0), .int .i64 (f 1), .int .i64 (f 2), .int .i64 (f 3), .int .i64 (f 4), .int .i64 (f 5), .int .i64 (f 6), .int .i64 (f 7), .int .i64 (f 8), .int .i64 (f 9), .int .i64 (f 10), .int .i64 (f 11)] 24)) 24).alloc (.cells #[.int .i64 0, .int .i64 0] 32))
  have HF0 := Lib.hid (Ints.two ((w.alloc (.cells #[.int .i64 (f 0), .int .i64 (f 1), .int .i64 (f 2), .int .i64 (f 3), .int .i64 (f 4), .int .i64 (f 5), .int .i64 (f 6), .int .i64 (f 7), .int .i64 (f 8), .int .i64 (f 9), .int .i64 (f 10), .int .i64 (f 11)] 24)).alloc (.cells #[.int .i64 ((fun _ => (0 : Int)) 0), .int .i64 ((fun _ => (0 : Int)) 1), .int .i64 ((fun _ => (0 : Int)) 2), .int .i64 ((fun _ => (0 : Int)) 3), .int .i64 ((fun _ => (0 : Int)) 4), .int .i64 ((fun _ => (0 : Int)) 5), .int .i64 ((fun _ => (0 : Int)) 6), .int .i64 ((fun _ => (0 : Int)) 7), .int .i64 ((fun _ => (0 : Int)) 8), .int .i64 ((fun _ => (0 : Int)) 9), .int .i64 ((fun _ => (0 : Int)) 10), .int .i64 ((fun _ => (0 : Int)) 11)] 24)) 0 0 32 (fun _ => 0) rfl rfl)
  refine (CW.out _ (HL.out.below bel)).mono ?_
  rintro e w1 ⟨rfl, hb⟩
  have hz := hb.size
  (try simp only [World.size_alloc, World.heap_drewN, World.size_drew, World.size_setCell] at hz)
  have HB1 := Lib.hid (show Below w.heap.size w w1 from bel)
  have HZ1 := Lib.hid (HZ0.out.below hb)
  have HF1 := Lib.hid (HF0.out.below hb)
  simp only [World.size_alloc] at HZ1 HF1
  clear hb HZ0 HF0
  have HZ1_r := HZ1.out.row12; have HZ1_c0 := (HZ1.out.2 0 (by decide)).1; have HZ1_f0 := (HZ1.out.2 0 (by decide)).2; have HZ1_c1 := (HZ1.out.2 1 (by decide)).1; have HZ1_f1 := (HZ1.out.2 1 (by decide)).2; have HZ1_c2 := (HZ1.out.2 2 (by decide)).1; have HZ1_f2 := (HZ1.out.2 2 (by decide)).2; have HZ1_c3 := (HZ1.out.2 3 (by decide)).1; have HZ1_f3 := (HZ1.out.2 3 (by decide)).2; have HZ1_c4 := (HZ1.out.2 4 (by decide)).1; have HZ1_f4 := (HZ1.out.2 4 (by decide)).2; have HZ1_c5 := (HZ1.out.2 5 (by decide)).1; have HZ1_f5 := (HZ1.out.2 5 (by decide)).2; have HZ1_c6 := (HZ1.out.2 6 (by decide)).1; have HZ1_f6 := (HZ1.out.2 6 (by decide)).2; have HZ1_c7 := (HZ1.out.2 7 (by decide)).1; have HZ1_f7 := (HZ1.out.2 7 (by decide)).2; have HZ1_c8 := (HZ1.out.2 8 (by decide)).1; have HZ1_f8 := (HZ1.out.2 8 (by decide)).2; have HZ1_c9 := (HZ1.out.2 9 (by decide)).1; have HZ1_f9 := (HZ1.out.2 9 (by decide)).2; have HZ1_c10 := (HZ1.out.2 10 (by decide)).1; have HZ1_f10 := (HZ1.out.2 10 (by decide)).2; have HZ1_c11 := (HZ1.out.2 11 (by decide)).1; have HZ1_f11 := (HZ1.out.2 11 (by decide)).2; have HZ1_z := HZ1.out.1
  obtain ⟨a0, b0⟩ := HF1.out.2 0 (by decide)
  obtain ⟨a1, b1⟩ := HF1.out.2 1 (by decide)
  have ar := HF1.out.row2
  have az := HF1.out.1
  have := HB1.out
  go_wp2
  generalize hwf : World.setCell _ _ _ = wf; have r1 : wf.rangeAt (w.heap.size + 1) 0 [.int .i64 ((fun _ => 0) 0), .int .i64 ((fun _ => 0) 1), .int .i64 ((fun _ => 0) 2), .int .i64 ((fun _ => 0) 3), .int .i64 ((fun _ => 0) 4), .int .i64 ((fun _ => 0) 5), .int .i64 ((fun _ => 0) 6), .int .i64 ((fun _ => 0) 7), .int .i64 ((fun _ => 0) 8), .int .i64 ((fun _ => 0) 9), .int .i64 ((fun _ => 0) 10), .int .i64 ((fun _ => 0) 11)] := (by rw [← hwf]; exact rng); have r2 : wf.rangeAt (w.heap.size + 1 + 1) 0 [.int .i64 (0), .int .i64 (0)] := (by rw [← hwf]; exact rng); have r3 : Below w.heap.size w wf := (by rw [← hwf]; exact bel); refine bodyPost_ret (ret_cell2_tmp Try.results13 (w.heap.size + 1) [.int .i64 ((fun _ => 0) 0), .int .i64 ((fun _ => 0) 1), .int .i64 ((fun _ => 0) 2), .int .i64 ((fun _ => 0) 3), .int .i64 ((fun _ => 0) 4), .int .i64 ((fun _ => 0) 5), .int .i64 ((fun _ => 0) 6), .int .i64 ((fun _ => 0) 7), .int .i64 ((fun _ => 0) 8), .int .i64 ((fun _ => 0) 9), .int .i64 ((fun _ => 0) 10), .int .i64 ((fun _ => 0) 11)] _ (w.heap.size + 1 + 1) [.int .i64 (0), .int .i64 (0)] _ rfl rfl r1 Try.underlying24 rfl (by kernel_rfl) r2 Try.underlying32 rfl (by kernel_rfl)) rfl ⟨rfl, r3⟩
end Go.Proofs.Ytijgabippedhpaa
