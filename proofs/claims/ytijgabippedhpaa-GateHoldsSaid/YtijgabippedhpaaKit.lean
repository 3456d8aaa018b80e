/-
  Small plain laws of this verifier's own, over any program: how a statement 'whatever the input: true, and the input reads as it did' is closed from a walk that leaves all old memory as it was.
-/
import Derived.WalkKit
import Derived.ProofKit
import Derived.OpenShut
import Derived.Lib.Hide
import Derived.Deep.Draws
import Derived.Lib.SmallJoins
import Derived.Deep.MidRow
import Derived.Lib.QuietBelow
namespace Go.Proofs.Ytijgabippedhpaa
set_option linter.unusedVariables false
set_option linter.unusedSimpArgs false
open Go.ChangeShapes Go.WideShapes Go.RowKit

theorem ret_int {k : IntKind} {a b : Int} (h : a = b) : Ending.returned (.int k a) = .returned (.int k b) := by rw [h]
theorem ret_bool {a b : Bool} (h : a = b) : Ending.returned (.bool a) = .returned (.bool b) := by rw [h]
theorem kept_drewN {B : Nat} {a w : World} (h : Below B a w) (n : Nat) : Below B a (w.drewN n) := h.trans ⟨rfl, rfl, rfl, Nat.le_refl _, fun _ _ => rfl⟩
theorem kept_drew1 {B : Nat} {a w : World} (h : Below B a w) : Below B a w.drew := h.trans ⟨rfl, rfl, rfl, Nat.le_refl _, fun _ _ => rfl⟩
theorem kept_aw (w : World) (o : Obj) (n : Nat) : Below w.heap.size w ((w.alloc o).drewN n) := kept_drewN ((Below.refl _ w).alloc (Nat.le_refl _) o) n
theorem kalloc {a w : World} (h : Below a.heap.size a w) (o : Obj) : Below a.heap.size a (w.alloc o) := h.alloc h.size o
theorem kept_cell {W w : World} {B : Nat} (h : Below B W w) : (∀ b o, b < B → w.cell? ⟨b, o, none⟩ = W.cell? ⟨b, o, none⟩) ∧ (∀ b o, b < B → w.frozen? ⟨b, o, none⟩ = W.frozen? ⟨b, o, none⟩) :=
  ⟨fun b o hb => h.cell (p := ⟨b, o, none⟩) hb, fun b o hb => h.frozen (p := ⟨b, o, none⟩) hb⟩

theorem bcall {W w : World} (h : Below W.heap.size W w) : (∀ b o, b < W.heap.size → w.cell? ⟨b, o, none⟩ = W.cell? ⟨b, o, none⟩) ∧ (∀ b o, b < W.heap.size → w.frozen? ⟨b, o, none⟩ = W.frozen? ⟨b, o, none⟩) ∧ W.heap.size ≤ w.heap.size :=
  ⟨fun b o hb => h.cell (p := ⟨b, o, none⟩) hb, fun b o hb => h.frozen (p := ⟨b, o, none⟩) hb, h.size⟩
theorem bthru {a W w : World} (hb : Below W.heap.size W w) (h : Below a.heap.size a W) : Below a.heap.size a w := h.trans (hb.mono h.size)
theorem kset {a w : World} (h : Below a.heap.size a w) {p : Addr} (hp : a.heap.size ≤ p.block) (v : Value) : Below a.heap.size a (w.setCell p v) := h.setCell hp v

theorem two_set (w : World) (b : Nat) (u0 u1 x y : Value) (k0 : w.cell? ⟨b, 0, none⟩ = some u0) (k1 : w.cell? ⟨b, 1, none⟩ = some u1) :
    ((w.setCell ⟨b, 0, none⟩ x).setCell ⟨b, 1, none⟩ y).cell? ⟨b, 0, none⟩ = some x ∧ ((w.setCell ⟨b, 0, none⟩ x).setCell ⟨b, 1, none⟩ y).cell? ⟨b, 1, none⟩ = some y := by
  refine ⟨?_, ?_⟩
  · rw [World.cell?_setCell_other _ _ _ _ (by simp)]; exact World.cell?_setCell_same _ _ _ k0
  · exact World.cell?_setCell_same _ _ _ (by rw [World.cell?_setCell_other _ _ _ _ (by simp)]; exact k1)


/-! Results that lie in memory. -/
theorem ret_cell {P : Program} {fn : Func} {p : Tmp} {ty : TypeId} (h : fn.results = #[.cell p ty]) {tmps : Array Value} {w : World} (b : Nat) (cs : List Value) (d : TypeDesc)
    (hp : tmps.getD p undef = .pointer (some ⟨b, 0, none⟩)) (hc : w.rangeAt b 0 cs) (hu : P.underlying ty = some d) (hd : d.isRow = true) (hi : (P.info? ty).map (·.size) = some cs.length) :
    (results fn tmps).run P w = .ok (.agg cs.toArray) w := by
  have hp' : tmps[p]?.getD undef = .pointer (some ⟨b, 0, none⟩) := by simpa using hp
  simp [results, h, hp', asAddr, run_loadVar_mid w b 0 ty cs d hc hu hd hi]
theorem ret_cell_tmp {P : Program} {fn : Func} {p u : Tmp} {ty : TypeId} (h : fn.results = #[.cell p ty, .tmp u]) {tmps : Array Value} {w : World} (b : Nat) (cs : List Value) (d : TypeDesc)
    (hp : tmps.getD p undef = .pointer (some ⟨b, 0, none⟩)) (hc : w.rangeAt b 0 cs) (hu : P.underlying ty = some d) (hd : d.isRow = true) (hi : (P.info? ty).map (·.size) = some cs.length) :
    (results fn tmps).run P w = .ok (.tuple #[.agg cs.toArray, tmps.getD u undef]) w := by
  have hp' : tmps[p]?.getD undef = .pointer (some ⟨b, 0, none⟩) := by simpa using hp
  simp only [results, h]
  simp [Sem.run_bind, hp', asAddr, run_loadVar_mid w b 0 ty cs d hc hu hd hi]
theorem range2 {w : World} {b : Nat} {x y : Value} (h0 : w.cell? ⟨b, 0, none⟩ = some x) (h1 : w.cell? ⟨b, 1, none⟩ = some y) : w.rangeAt b 0 [x, y] := by
  intro j v hv
  match j, hv with
  | 0, hv => simp at hv; subst hv; exact h0
  | 1, hv => simp at hv; subst hv; exact h1
theorem range2_new (w : World) (x y : Value) (t : TypeId) : (w.alloc (.cells #[x, y] t)).rangeAt w.heap.size 0 [x, y] := by
  intro j v hv
  match j, hv with
  | 0, hv => simp at hv; subst hv; simp [World.cell?, World.alloc, -World.alloc_eq]
  | 1, hv => simp at hv; subst hv; simp [World.cell?, World.alloc, -World.alloc_eq]
theorem range_alloc {w : World} {b : Nat} {cs : List Value} (h : w.rangeAt b 0 cs) (hb : b < w.heap.size) (o : Obj) : (w.alloc o).rangeAt b 0 cs := fun j v hv => by
  rw [World.cell?_alloc_lt _ _ _ hb]; exact h j v hv
theorem range_drewN {w : World} {b : Nat} {cs : List Value} (h : w.rangeAt b 0 cs) (n : Nat) : (w.drewN n).rangeAt b 0 cs := h
theorem range_drew1 {w : World} {b : Nat} {cs : List Value} (h : w.rangeAt b 0 cs) : w.drew.rangeAt b 0 cs := h
theorem range_far {w : World} {b : Nat} {cs : List Value} (h : w.rangeAt b 0 cs) {p : Addr} (hp : p.block ≠ b) (v : Value) : (w.setCell p v).rangeAt b 0 cs := fun j u hu => by
  rw [World.cell?_setCell_other _ _ _ _ (by intro e; exact hp (by rw [e]))]; exact h j u hu
theorem range_below {w w1 : World} {b : Nat} {cs : List Value} (h : w.rangeAt b 0 cs) (hb : Below w.heap.size w w1) (hlt : b < w.heap.size) : w1.rangeAt b 0 cs := fun j v hv => by
  rw [hb.cell (p := ⟨b, 0 + j, none⟩) hlt]; exact h j v hv
theorem range_new (w : World) (cs : Array Value) (t : TypeId) : (w.alloc (.cells cs t)).rangeAt w.heap.size 0 cs.toList := by
  intro j v hv
  simp only [Array.getElem?_toList] at hv
  simp [World.cell?, World.alloc, -World.alloc_eq, hv]
theorem range_new_at (w : World) (cs : Array Value) (t : TypeId) {b : Nat} (h : b = w.heap.size) : (w.alloc (.cells cs t)).rangeAt b 0 cs.toList := by
  subst h; exact range_new w cs t
theorem range_put {w : World} {b : Nat} {cs : List Value} (h : w.rangeAt b 0 cs) (i : Nat) (v : Value) {ds : List Value} (hd : cs.set i v = ds) : (w.setCell ⟨b, i, none⟩ v).rangeAt b 0 ds := by
  subst hd
  intro j u hu
  rw [List.getElem?_set] at hu
  by_cases e : i = j
  · subst e
    rw [if_pos rfl] at hu
    split at hu
    · rename_i hi
      simp only [Option.some.injEq] at hu
      subst hu
      have h0 := h i cs[i] (by simp [hi])
      rw [Nat.zero_add] at h0 ⊢
      exact World.cell?_setCell_same _ _ _ h0
    · simp at hu
  · rw [if_neg e] at hu
    rw [World.cell?_setCell_other _ _ _ _ (by intro x; injection x with _ x; omega)]
    exact h j u hu
theorem range_cell {w : World} {b : Nat} {cs : List Value} (h : w.rangeAt b 0 cs) (i : Nat) {v : Value} (hv : cs[i]? = some v) : w.cell? ⟨b, i, none⟩ = some v := by
  have := h i v hv
  rwa [Nat.zero_add] at this
theorem range2_set (w : World) (b : Nat) (u0 u1 x y : Value) (k0 : w.cell? ⟨b, 0, none⟩ = some u0) (k1 : w.cell? ⟨b, 1, none⟩ = some u1) :
    ((w.setCell ⟨b, 0, none⟩ x).setCell ⟨b, 1, none⟩ y).rangeAt b 0 [x, y] := range2 (two_set w b u0 u1 x y k0 k1).1 (two_set w b u0 u1 x y k0 k1).2


/-- No cell of block 'b' is frozen. -/
def Free (w : World) (b : Nat) : Prop := ∀ j, w.frozen? ⟨b, j, none⟩ = false
theorem free_new_at (w : World) (cs : Array Value) (t : TypeId) {b : Nat} (h : b = w.heap.size) : Free (w.alloc (.cells cs t)) b := fun j => World.frozen?_alloc_at cs t b j h
theorem free_alloc {w : World} {b : Nat} (h : Free w b) (hb : b < w.heap.size) (o : Obj) : Free (w.alloc o) b := fun j => by rw [World.frozen?_alloc_past o b j hb]; exact h j
theorem free_drewN {w : World} {b : Nat} (h : Free w b) (n : Nat) : Free (w.drewN n) b := h
theorem free_drew1 {w : World} {b : Nat} (h : Free w b) : Free w.drew b := h
theorem free_set {w : World} {b : Nat} (h : Free w b) (p : Addr) (v : Value) : Free (w.setCell p v) b := fun j => by rw [World.frozen?_setCell]; exact h j
theorem free_below {w w1 : World} {b : Nat} (h : Free w b) (hb : Below w.heap.size w w1) (hlt : b < w.heap.size) : Free w1 b := fun j => by
  rw [hb.frozen (p := ⟨b, j, none⟩) hlt]; exact h j


/-! The walks' own closers: that old memory is as it was; that a block holds these cells; that its cells may be written. -/
theorem bel {B : Nat} {a w : World} (h : Below B a w := by with_reducible repeat (first | exact Below.refl _ _ | apply kalloc | apply kept_drewN | apply kept_drew1 | (refine kset ?_ (by first | (simp; done) | (simp; omega)) _) | assumption | (refine bthru (by assumption) ?_))) : Below B a w := h
theorem rng {w : World} {b : Nat} {cs : List Value} (h : w.rangeAt b 0 cs := by with_reducible repeat (first | exact range_new_at _ _ _ (by first | omega | (simp; done) | (simp; omega)) | apply range_put | (with_unfolding_all rfl) | (refine range_alloc ?_ (by first | omega | (simp; done) | (simp; omega)) _) | (refine range_drewN ?_ _) | apply range_drew1 | (refine range_far ?_ (by first | omega | (dsimp only; omega) | (simp; done) | (simp; omega)) _) | assumption | (refine range_below ?_ (by assumption) (by first | omega | (simp; done) | (simp; omega))) | apply range_far | (with_reducible omega) | (dsimp only; omega) | (simp; done) | (simp; omega))) : w.rangeAt b 0 cs := h
theorem fre {w : World} {b : Nat} (h : Free w b := by with_reducible repeat (first | exact free_new_at _ _ _ (by first | omega | (simp; done) | (simp; omega)) | (refine free_set ?_ _ _) | (refine free_alloc ?_ (by first | omega | (simp; done) | (simp; omega)) _) | (refine free_drewN ?_ _) | apply free_drew1 | assumption | (refine free_below ?_ (by assumption) (by first | omega | (simp; done) | (simp; omega))))) : Free w b := h
/-! A region that draws its order and whose operations only read, or call what leaves old memory as it was. -/
theorem region_below {P : Program} {id : Nat} {Q : Exit → Act → World → Prop} {a : Act} {w : World} {l : List Oper} (hm : P.follows .mixedOrders = true) (hB : Region.lexB .any l.toArray = true)
    (h : ∀ w1 : World, Hid (w = w1) → wpQuiet P l.toArray (fun w' => ∃ p : Regrown, w' = Go.Sort.grow (redrawn w1 p.d) p.os) (fun a' => ∀ w', Below w1.heap.size w1 w' → Q .normal a' w') l a) : (Code.region id l.toArray true).wp P Q a w :=
  wp_region_quiet (C := fun w' => ∃ p : Regrown, w' = Go.Sort.grow (redrawn w p.d) p.os) hm hB ⟨⟨w.drawn + 1, #[]⟩, by rw [Go.Sort.grow_empty]; rfl⟩ (by
    have h2 := h w rfl
    have e : (fun a' => ∀ w', Below w.heap.size w w' → Q .normal a' w') = (fun a' => ∀ w', (∃ p : Regrown, w' = Go.Sort.grow (redrawn w p.d) p.os) → Q .normal a' w') := by
      funext a'
      apply propext
      exact ⟨fun h w' ⟨p, hp⟩ => h w' (by rw [hp]; exact below_regrown w p.d p.os), fun h w' hb => h w' (regrown_of_below hb)⟩
    rw [e] at h2
    simpa using h2)

/-- Block 'b' holds the bytes 'f 0', .., 'f (n - 1)', and they may be written. -/
def Buf (w : World) (b n : Nat) (f : Nat → Nat) : Prop := ∀ j, j < n → w.cell? ⟨b, j, none⟩ = some (.int .u8 (f j : Nat)) ∧ w.frozen? ⟨b, j, none⟩ = false
theorem Buf.set {w : World} {b n : Nat} {f : Nat → Nat} (h : Buf w b n f) (j0 x : Nat) (hj0 : j0 < n) (g : Nat → Nat) (hg : ∀ j, g j = if j = j0 then x else f j) :
    Buf (w.setCell ⟨b, j0, none⟩ (.int .u8 (x : Nat))) b n g := by
  intro j hj
  obtain ⟨h1, h2⟩ := h j hj
  obtain ⟨h3, h4⟩ := h j0 hj0
  refine ⟨?_, ?_⟩
  · rw [hg]
    by_cases e : j = j0
    · subst e
      rw [if_pos rfl]
      exact World.cell?_setCell_same _ _ _ h3
    · rw [if_neg e, World.cell?_setCell_other _ _ _ _ (by intro h; injection h with _ h; exact e h.symm), h1]
  · rw [World.frozen?_setCell]; exact h2
theorem Buf.alloc {w : World} {b n : Nat} {f : Nat → Nat} (h : Buf w b n f) (hb : b < w.heap.size) (o : Obj) : Buf (w.alloc o) b n f := fun j hj => by
  have hk := (Below.refl w.heap.size w).alloc (Nat.le_refl _) o
  rw [hk.cell (p := ⟨b, j, none⟩) hb, hk.frozen (p := ⟨b, j, none⟩) hb]
  exact h j hj
theorem Buf.drewN {w : World} {b n : Nat} {f : Nat → Nat} (h : Buf w b n f) (k : Nat) : Buf (w.drewN k) b n f := h



theorem cell_i64 {H : Type} {enc : TypeId × Value → H} {P : Program} {w : World} {base : Nat} {spare : Nat → Bool} {held : Bool} {n : Nat} {t : TypeId} {v : Value} {y : DataW H × List MemPlace} (ht : P.underlying t = some (.int .i64))
    (h : DataW.trod enc P w base spare held n t [v] = some y) : ∃ a : Int, v = .int .i64 a ∧ -9223372036854775808 ≤ a ∧ a ≤ 9223372036854775807 := by
  obtain ⟨a, h1, h2, h3⟩ := DataW.trod_int ht h
  simp at h1
  have hb := bounds_i64 h3
  exact ⟨a, h1, hb.1, hb.2⟩

section
variable {H : Type} {enc : TypeId × Value → H} {P : Program}

/-- A list of arguments reads as it did, wherever old memory is as it was. -/
theorem args_stay (hl : laidOutB P = true) {W W' : World} (hb : Below W.heap.size W W') (sp : Nat → Bool) :
    ∀ (ts : List TypeId) (vs : List Value) (ds : List (DataW H)) (ps : List MemPlace), (∀ t ∈ ts, P.readableRec t = true ∧ t < P.types.size) →
      (∀ x ∈ ps, x.block < W.heap.size) → (∀ x ∈ ps, sp x.block = true) → DataW.TrodAll enc P W 0 (fun _ => true) true ts vs ds ps → DataW.TrodAll enc P W' 0 sp true ts vs ds ps := by
  intro ts
  induction ts with
  | nil =>
    intro vs ds ps _ _ _ h
    obtain ⟨rfl, rfl, rfl⟩ := trodAll_nil h
    exact trodAll_mk0
  | cons t ts ih =>
    intro vs ds ps ht hlt hsp h
    obtain ⟨v, vs', d, ds', p, q, rfl, rfl, rfl, h0, hr⟩ := trodAll_cons h
    refine trodAll_cons_mk ?_ (ih vs' ds' q (fun u hu => ht u (List.mem_cons_of_mem _ hu)) (fun x hx => hlt x (List.mem_append_right _ hx)) (fun x hx => hsp x (List.mem_append_right _ hx)) hr)
    obtain ⟨h1, h2⟩ := ht t List.mem_cons_self
    exact WideElems.Trod_stays hl h1 h2 h0 (fun x hx => hb.same (hlt x (List.mem_append_left _ hx))) (fun x hx => hsp x (List.mem_append_left _ hx))

/-- A law's end: it answered true, old memory is as it was; no package variable is named. -/
theorem law_end {f : Func} {s : ChangeSpec} {apart fresh handsOn again : Bool} {W W' : World} {args : Array Value} {ds gs : List (DataW H)} {before : List MemPlace} {tb : TypeId}
    (hl : laidOutB P = true) (hts : ∀ t ∈ f.params.toList, P.readableRec t = true ∧ t < P.types.size)
    (hW : DataW.Whole enc P f.params.toList s.vars apart W args.toList ds gs before) (hv : s.vars = []) (hr : f.resultTypes = #[tb]) (htb : P.underlying tb = some .bool)
    (hs1 : (s.fn H (ds ++ gs)).results = [.lit (.bool true)]) (hs2 : (s.fn H (ds ++ gs)).args = ds) (hs3 : (s.fn H (ds ++ gs)).vars = [])
    (hb : Below W.heap.size W W') : s.post enc P f apart fresh handsOn again W args (.bool true) W' := by
  have hlt : ∀ x ∈ before, x.block < W.heap.size := fun x hx => hW.lt x hx
  have hW0 := hW
  obtain ⟨p, q, hA, hV, rfl, hz, hn⟩ := hW0
  rw [hv] at hV
  obtain ⟨rfl, rfl⟩ := trodVars_none hV
  have hargs : ∀ sp : Nat → Bool, (∀ x ∈ p, sp x.block = true) → DataW.TrodAll enc P W' 0 sp true f.params.toList args.toList ds p :=
    fun sp hsp => args_stay hl hb sp _ _ _ _ hts (fun x hx => hlt x (List.mem_append_left _ hx)) hsp hA
  have hres : ∀ (b : Nat) (sp : Nat → Bool) (hd : Bool), DataW.TrodAll enc P W' b sp hd f.resultTypes.toList ((Value.bool true).resultList f.resultTypes.size) [.lit (.bool true)] [] := by
    intro b sp hd
    rw [hr]
    exact trodAll_cons_mk (shut_bool htb _) trodAll_mk0
  refine ⟨ds, [], _, [], p, [], hW, by rw [hs1]; exact hres _ _ _, by rw [hs2]; exact hargs _ (fun x hx => by simpa using hlt x (List.mem_append_left _ hx)), by rw [hs3, hv]; rfl, hb.frame _, fun _ => ?_⟩
  refine ⟨ok_one hr rfl (okWide_bool_mk htb _), [.lit (.bool true)] ++ ds, [], ([] ++ p) ++ [], ⟨[] ++ p, [], ?_, ?_, rfl, ?_, ?_⟩, ?_⟩
  · skip
    exact trodAll_append (hargs _ (fun _ _ => rfl)) (hres _ _ _)
  · rw [hv]; rfl
  · intro b off hp
    have hin : MemPlace.cell b off ∈ p ++ [] := by simpa using hp
    rw [hb.frozen (p := ⟨b, off, none⟩) (hlt _ hin)]
    exact hz b off hin
  · intro ha
    simpa using hn ha
  · intro x hx _
    simpa using hx
end
end Go.Proofs.Ytijgabippedhpaa
