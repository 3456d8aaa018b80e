
import Derived.WalkKit
import Derived.ProofKit
import Derived.OpenShut
import Derived.Lib.Hide
import Derived.Deep.Draws
import Derived.Lib.SmallJoins
import Derived.Deep.MidRow
import Derived.Lib.QuietBelow
import Derived.StillTailTactics
import Derived.Test.YtkdmmomfolhfbaaPure
import Derived.Laws.MakeOwn
import Derived.Laws.AppendOwn
import Derived.Deep.AppendLies
import Derived.Deep.SlicePairs
import Derived.OrdersHeld
import Derived.Deep.RegionHeld
import Derived.ChangeKeysEq
import Derived.Laws.StructEq
namespace Go.Proofs.Ytkdmmomfolhfbaa
set_option linter.unusedVariables false
set_option linter.unusedSimpArgs false
open Go.ChangeShapes Go.WideShapes Go.RowKit

theorem ret_int {k : IntKind} {a b : Int} (h : a = b) : Ending.returned (.int k a) = .returned (.int k b) := by rw [h]
theorem ret_bool {a b : Bool} (h : a = b) : Ending.returned (.bool a) = .returned (.bool b) := by rw [h]
theorem kept_drewN {B : Nat} {a w : World} (h : Below B a w) (n : Nat) : Below B a (w.drewN n) := h.trans ⟨rfl, rfl, rfl, Nat.le_refl _, fun _ _ => rfl⟩
theorem kept_drew1 {B : Nat} {a w : World} (h : Below B a w) : Below B a w.drew := h.trans ⟨rfl, rfl, rfl, Nat.le_refl _, fun _ _ => rfl⟩
theorem kept_aw (w : World) (o : Obj) (n : Nat) : Below w.heap.size w ((w.alloc o).drewN n) := kept_drewN ((Below.refl _ w).alloc (Nat.le_refl _) o) n
theorem kalloc {a w : World} (h : Below a.heap.size a w) (o : Obj) : Below a.heap.size a (w.alloc o) := h.alloc h.size o
theorem kept_cell {W w : World} {B : Nat} (h : Below B W w) : (∀ b o, b < B → w.cell? ⟨b, o, none⟩ = W.cell? ⟨b, o, none⟩) ∧ (∀ b o, b < B → w.frozen? ⟨b, o, none⟩ = W.frozen? ⟨b, o, none⟩) :=
  ⟨fun b o hb => h.cell (p := ⟨b, o, none⟩) hb, fun b o hb => h.frozen (p := ⟨b, o, none⟩) hb⟩

theorem bcall {W w : World} (h : Below W.heap.size W w) : (∀ b o, b < W.heap.size → w.cell? ⟨b, o, none⟩ = W.cell? ⟨b, o, none⟩) ∧ (∀ b o, b < W.heap.size → w.frozen? ⟨b, o, none⟩ = W.frozen? ⟨b, o, none⟩) ∧ W.heap.size ≤ w.heap.size :=
  ⟨fun b o hb => h.cell (p := ⟨b, o, none⟩) hb, fun b o hb => h.frozen (p := ⟨b, o, none⟩) hb, h.size⟩
theorem bthru {a W w : World} (hb : Below W.heap.size W w) (h : Below a.heap.size a W) : Below a.heap.size a w := h.trans (hb.mono h.size)
theorem kset {a w : World} (h : Below a.heap.size a w) {p : Addr} (hp : a.heap.size ≤ p.block) (v : Value) : Below a.heap.size a (w.setCell p v) := h.setCell hp v

theorem two_set (w : World) (b : Nat) (u0 u1 x y : Value) (k0 : w.cell? ⟨b, 0, none⟩ = some u0) (k1 : w.cell? ⟨b, 1, none⟩ = some u1) :
    ((w.setCell ⟨b, 0, none⟩ x).setCell ⟨b, 1, none⟩ y).cell? ⟨b, 0, none⟩ = some x ∧ ((w.setCell ⟨b, 0, none⟩ x).setCell ⟨b, 1, none⟩ y).cell? ⟨b, 1, none⟩ = some y := by
  refine ⟨?_, ?_⟩
  · rw [World.cell?_setCell_other _ _ _ _ (by simp)]; exact World.cell?_setCell_same _ _ _ k0
  · exact World.cell?_setCell_same _ _ _ (by rw [World.cell?_setCell_other _ _ _ _ (by simp)]; exact k1)


/-! Results that lie in memory. -/
theorem ret_cell {P : Program} {fn : Func} {p : Tmp} {ty : TypeId} (h : fn.results = #[.cell p ty]) {tmps : Array Value} {w : World} (b : Nat) (cs : List Value) (d : TypeDesc)
    (hp : tmps.getD p undef = .pointer (some ⟨b, 0, none⟩)) (hc : w.rangeAt b 0 cs) (hu : P.underlying ty = some d) (hd : d.isRow = true) (hi : (P.info? ty).map (·.size) = some cs.length) :
    (results fn tmps).run P w = .ok (.agg cs.toArray) w := by
  have hp' : tmps[p]?.getD undef = .pointer (some ⟨b, 0, none⟩) := by simpa using hp
  simp [results, h, hp', asAddr, run_loadVar_mid w b 0 ty cs d hc hu hd hi]
theorem ret_cell_tmp {P : Program} {fn : Func} {p u : Tmp} {ty : TypeId} (h : fn.results = #[.cell p ty, .tmp u]) {tmps : Array Value} {w : World} (b : Nat) (cs : List Value) (d : TypeDesc)
    (hp : tmps.getD p undef = .pointer (some ⟨b, 0, none⟩)) (hc : w.rangeAt b 0 cs) (hu : P.underlying ty = some d) (hd : d.isRow = true) (hi : (P.info? ty).map (·.size) = some cs.length) :
    (results fn tmps).run P w = .ok (.tuple #[.agg cs.toArray, tmps.getD u undef]) w := by
  have hp' : tmps[p]?.getD undef = .pointer (some ⟨b, 0, none⟩) := by simpa using hp
  simp only [results, h]
  simp [Sem.run_bind, hp', asAddr, run_loadVar_mid w b 0 ty cs d hc hu hd hi]
theorem range2 {w : World} {b : Nat} {x y : Value} (h0 : w.cell? ⟨b, 0, none⟩ = some x) (h1 : w.cell? ⟨b, 1, none⟩ = some y) : w.rangeAt b 0 [x, y] := by
  intro j v hv
  match j, hv with
  | 0, hv => simp at hv; subst hv; exact h0
  | 1, hv => simp at hv; subst hv; exact h1
theorem range2_new (w : World) (x y : Value) (t : TypeId) : (w.alloc (.cells #[x, y] t)).rangeAt w.heap.size 0 [x, y] := by
  intro j v hv
  match j, hv with
  | 0, hv => simp at hv; subst hv; simp [World.cell?, World.alloc, -World.alloc_eq]
  | 1, hv => simp at hv; subst hv; simp [World.cell?, World.alloc, -World.alloc_eq]
theorem range_alloc {w : World} {b : Nat} {cs : List Value} (h : w.rangeAt b 0 cs) (hb : b < w.heap.size) (o : Obj) : (w.alloc o).rangeAt b 0 cs := fun j v hv => by
  rw [World.cell?_alloc_lt _ _ _ hb]; exact h j v hv
theorem range_drewN {w : World} {b : Nat} {cs : List Value} (h : w.rangeAt b 0 cs) (n : Nat) : (w.drewN n).rangeAt b 0 cs := h
theorem range_drew1 {w : World} {b : Nat} {cs : List Value} (h : w.rangeAt b 0 cs) : w.drew.rangeAt b 0 cs := h
theorem range_far {w : World} {b : Nat} {cs : List Value} (h : w.rangeAt b 0 cs) {p : Addr} (hp : p.block ≠ b) (v : Value) : (w.setCell p v).rangeAt b 0 cs := fun j u hu => by
  rw [World.cell?_setCell_other _ _ _ _ (by intro e; exact hp (by rw [e]))]; exact h j u hu
theorem range_below {w w1 : World} {b : Nat} {cs : List Value} (h : w.rangeAt b 0 cs) (hb : Below w.heap.size w w1) (hlt : b < w.heap.size) : w1.rangeAt b 0 cs := fun j v hv => by
  rw [hb.cell (p := ⟨b, 0 + j, none⟩) hlt]; exact h j v hv
theorem range_new (w : World) (cs : Array Value) (t : TypeId) : (w.alloc (.cells cs t)).rangeAt w.heap.size 0 cs.toList := by
  intro j v hv
  simp only [Array.getElem?_toList] at hv
  simp [World.cell?, World.alloc, -World.alloc_eq, hv]
theorem range_new_at (w : World) (cs : Array Value) (t : TypeId) {b : Nat} (h : b = w.heap.size) : (w.alloc (.cells cs t)).rangeAt b 0 cs.toList := by
  subst h; exact range_new w cs t
theorem range_put {w : World} {b : Nat} {cs : List Value} (h : w.rangeAt b 0 cs) (i : Nat) (v : Value) {ds : List Value} (hd : cs.set i v = ds) : (w.setCell ⟨b, i, none⟩ v).rangeAt b 0 ds := by
  subst hd
  intro j u hu
  rw [List.getElem?_set] at hu
  by_cases e : i = j
  · subst e
    rw [if_pos rfl] at hu
    split at hu
    · rename_i hi
      simp only [Option.some.injEq] at hu
      subst hu
      have h0 := h i cs[i] (by simp [hi])
      rw [Nat.zero_add] at h0 ⊢
      exact World.cell?_setCell_same _ _ _ h0
    · simp at hu
  · rw [if_neg e] at hu
    rw [World.cell?_setCell_other _ _ _ _ (by intro x; injection x with _ x; omega)]
    exact h j u hu
theorem range_cell {w : World} {b : Nat} {cs : List Value} (h : w.rangeAt b 0 cs) (i : Nat) {v : Value} (hv : cs[i]? = some v) : w.cell? ⟨b, i, none⟩ = some v := by
  have := h i v hv
  rwa [Nat.zero_add] at this
theorem range2_set (w : World) (b : Nat) (u0 u1 x y : Value) (k0 : w.cell? ⟨b, 0, none⟩ = some u0) (k1 : w.cell? ⟨b, 1, none⟩ = some u1) :
    ((w.setCell ⟨b, 0, none⟩ x).setCell ⟨b, 1, none⟩ y).rangeAt b 0 [x, y] := range2 (two_set w b u0 u1 x y k0 k1).1 (two_set w b u0 u1 x y k0 k1).2


/-- No cell of block 'b' is frozen. -/
def Free (w : World) (b : Nat) : Prop := ∀ j, w.frozen? ⟨b, j, none⟩ = false
theorem free_new_at (w : World) (cs : Array Value) (t : TypeId) {b : Nat} (h : b = w.heap.size) : Free (w.alloc (.cells cs t)) b := fun j => World.frozen?_alloc_at cs t b j h
theorem free_alloc {w : World} {b : Nat} (h : Free w b) (hb : b < w.heap.size) (o : Obj) : Free (w.alloc o) b := fun j => by rw [World.frozen?_alloc_past o b j hb]; exact h j
theorem free_drewN {w : World} {b : Nat} (h : Free w b) (n : Nat) : Free (w.drewN n) b := h
theorem free_drew1 {w : World} {b : Nat} (h : Free w b) : Free w.drew b := h
theorem free_set {w : World} {b : Nat} (h : Free w b) (p : Addr) (v : Value) : Free (w.setCell p v) b := fun j => by rw [World.frozen?_setCell]; exact h j
theorem free_below {w w1 : World} {b : Nat} (h : Free w b) (hb : Below w.heap.size w w1) (hlt : b < w.heap.size) : Free w1 b := fun j => by
  rw [hb.frozen (p := ⟨b, j, none⟩) hlt]; exact h j


/-! The walks' own closers: that old memory is as it was; that a block holds these cells; that its cells may be written. -/
theorem bel {B : Nat} {a w : World} (h : Below B a w := by with_reducible repeat (first | exact Below.refl _ _ | apply kalloc | apply kept_drewN | apply kept_drew1 | (refine kset ?_ (by first | (simp; done) | (simp; omega)) _) | assumption | (refine bthru (by assumption) ?_))) : Below B a w := h
theorem rng {w : World} {b : Nat} {cs : List Value} (h : w.rangeAt b 0 cs := by with_reducible repeat (first | exact range_new_at _ _ _ (by first | omega | (simp; done) | (simp; omega)) | apply range_put | (with_unfolding_all rfl) | (refine range_alloc ?_ (by first | omega | (simp; done) | (simp; omega)) _) | (refine range_drewN ?_ _) | apply range_drew1 | (refine range_far ?_ (by first | omega | (dsimp only; omega) | (simp; done) | (simp; omega)) _) | assumption | (refine range_below ?_ (by assumption) (by first | omega | (simp; done) | (simp; omega))) | apply range_far | (with_reducible omega) | (dsimp only; omega) | (simp; done) | (simp; omega))) : w.rangeAt b 0 cs := h
theorem fre {w : World} {b : Nat} (h : Free w b := by with_reducible repeat (first | exact free_new_at _ _ _ (by first | omega | (simp; done) | (simp; omega)) | (refine free_set ?_ _ _) | (refine free_alloc ?_ (by first | omega | (simp; done) | (simp; omega)) _) | (refine free_drewN ?_ _) | apply free_drew1 | assumption | (refine free_below ?_ (by assumption) (by first | omega | (simp; done) | (simp; omega))))) : Free w b := h
/-! A region that draws its order and whose operations only read, or call what leaves old memory as it was. -/
theorem region_below {P : Program} {id : Nat} {Q : Exit → Act → World → Prop} {a : Act} {w : World} {l : List Oper} (hm : P.follows .mixedOrders = true) (hB : Region.lexB .any l.toArray = true)
    (h : ∀ w1 : World, Hid (w = w1) → wpQuiet P l.toArray (fun w' => ∃ p : Regrown, w' = Go.Sort.grow (redrawn w1 p.d) p.os) (fun a' => ∀ w', Below w1.heap.size w1 w' → Q .normal a' w') l a) : (Code.region id l.toArray true).wp P Q a w :=
  wp_region_quiet (C := fun w' => ∃ p : Regrown, w' = Go.Sort.grow (redrawn w p.d) p.os) hm hB ⟨⟨w.drawn + 1, #[]⟩, by rw [Go.Sort.grow_empty]; rfl⟩ (by
    have h2 := h w rfl
    have e : (fun a' => ∀ w', Below w.heap.size w w' → Q .normal a' w') = (fun a' => ∀ w', (∃ p : Regrown, w' = Go.Sort.grow (redrawn w p.d) p.os) → Q .normal a' w') := by
      funext a'
      apply propext
      exact ⟨fun h w' ⟨p, hp⟩ => h w' (by rw [hp]; exact below_regrown w p.d p.os), fun h w' hb => h w' (regrown_of_below hb)⟩
    rw [e] at h2
    simpa using h2)

/-- Block 'b' holds the bytes 'f 0', .., 'f (n - 1)', and they may be written. -/
def Buf (w : World) (b n : Nat) (f : Nat → Nat) : Prop := ∀ j, j < n → w.cell? ⟨b, j, none⟩ = some (.int .u8 (f j : Nat)) ∧ w.frozen? ⟨b, j, none⟩ = false
theorem Buf.set {w : World} {b n : Nat} {f : Nat → Nat} (h : Buf w b n f) (j0 x : Nat) (hj0 : j0 < n) (g : Nat → Nat) (hg : ∀ j, g j = if j = j0 then x else f j) :
    Buf (w.setCell ⟨b, j0, none⟩ (.int .u8 (x : Nat))) b n g := by
  intro j hj
  obtain ⟨h1, h2⟩ := h j hj
  obtain ⟨h3, h4⟩ := h j0 hj0
  refine ⟨?_, ?_⟩
  · rw [hg]
    by_cases e : j = j0
    · subst e
      rw [if_pos rfl]
      exact World.cell?_setCell_same _ _ _ h3
    · rw [if_neg e, World.cell?_setCell_other _ _ _ _ (by intro h; injection h with _ h; exact e h.symm), h1]
  · rw [World.frozen?_setCell]; exact h2
theorem Buf.alloc {w : World} {b n : Nat} {f : Nat → Nat} (h : Buf w b n f) (hb : b < w.heap.size) (o : Obj) : Buf (w.alloc o) b n f := fun j hj => by
  have hk := (Below.refl w.heap.size w).alloc (Nat.le_refl _) o
  rw [hk.cell (p := ⟨b, j, none⟩) hb, hk.frozen (p := ⟨b, j, none⟩) hb]
  exact h j hj
theorem Buf.drewN {w : World} {b n : Nat} {f : Nat → Nat} (h : Buf w b n f) (k : Nat) : Buf (w.drewN k) b n f := h



theorem cell_i64 {H : Type} {enc : TypeId × Value → H} {P : Program} {w : World} {base : Nat} {spare : Nat → Bool} {held : Bool} {n : Nat} {t : TypeId} {v : Value} {y : DataW H × List MemPlace} (ht : P.underlying t = some (.int .i64))
    (h : DataW.trod enc P w base spare held n t [v] = some y) : ∃ a : Int, v = .int .i64 a ∧ -9223372036854775808 ≤ a ∧ a ≤ 9223372036854775807 := by
  obtain ⟨a, h1, h2, h3⟩ := DataW.trod_int ht h
  simp at h1
  have hb := bounds_i64 h3
  exact ⟨a, h1, hb.1, hb.2⟩

section
variable {H : Type} {enc : TypeId × Value → H} {P : Program}

/-- A list of arguments reads as it did, wherever old memory is as it was. -/
theorem args_stay (hl : laidOutB P = true) {W W' : World} (hb : Below W.heap.size W W') (sp : Nat → Bool) :
    ∀ (ts : List TypeId) (vs : List Value) (ds : List (DataW H)) (ps : List MemPlace), (∀ t ∈ ts, P.readableRec t = true ∧ t < P.types.size) →
      (∀ x ∈ ps, x.block < W.heap.size) → (∀ x ∈ ps, sp x.block = true) → DataW.TrodAll enc P W 0 (fun _ => true) true ts vs ds ps → DataW.TrodAll enc P W' 0 sp true ts vs ds ps := by
  intro ts
  induction ts with
  | nil =>
    intro vs ds ps _ _ _ h
    obtain ⟨rfl, rfl, rfl⟩ := trodAll_nil h
    exact trodAll_mk0
  | cons t ts ih =>
    intro vs ds ps ht hlt hsp h
    obtain ⟨v, vs', d, ds', p, q, rfl, rfl, rfl, h0, hr⟩ := trodAll_cons h
    refine trodAll_cons_mk ?_ (ih vs' ds' q (fun u hu => ht u (List.mem_cons_of_mem _ hu)) (fun x hx => hlt x (List.mem_append_right _ hx)) (fun x hx => hsp x (List.mem_append_right _ hx)) hr)
    obtain ⟨h1, h2⟩ := ht t List.mem_cons_self
    exact WideElems.Trod_stays hl h1 h2 h0 (fun x hx => hb.same (hlt x (List.mem_append_left _ hx))) (fun x hx => hsp x (List.mem_append_left _ hx))

/-- A law's end: it answered true, old memory is as it was; no package variable is named. -/
theorem law_end {f : Func} {s : ChangeSpec} {apart fresh handsOn again : Bool} {W W' : World} {args : Array Value} {ds gs : List (DataW H)} {before : List MemPlace} {tb : TypeId}
    (hl : laidOutB P = true) (hts : ∀ t ∈ f.params.toList, P.readableRec t = true ∧ t < P.types.size)
    (hW : DataW.Whole enc P f.params.toList s.vars apart W args.toList ds gs before) (hv : s.vars = []) (hr : f.resultTypes = #[tb]) (htb : P.underlying tb = some .bool)
    (hs1 : (s.fn H (ds ++ gs)).results = [.lit (.bool true)]) (hs2 : (s.fn H (ds ++ gs)).args = ds) (hs3 : (s.fn H (ds ++ gs)).vars = [])
    (hb : Below W.heap.size W W') : s.post enc P f apart fresh handsOn again W args (.bool true) W' := by
  have hlt : ∀ x ∈ before, x.block < W.heap.size := fun x hx => hW.lt x hx
  have hW0 := hW
  obtain ⟨p, q, hA, hV, rfl, hz, hn⟩ := hW0
  rw [hv] at hV
  obtain ⟨rfl, rfl⟩ := trodVars_none hV
  have hargs : ∀ sp : Nat → Bool, (∀ x ∈ p, sp x.block = true) → DataW.TrodAll enc P W' 0 sp true f.params.toList args.toList ds p :=
    fun sp hsp => args_stay hl hb sp _ _ _ _ hts (fun x hx => hlt x (List.mem_append_left _ hx)) hsp hA
  have hres : ∀ (b : Nat) (sp : Nat → Bool) (hd : Bool), DataW.TrodAll enc P W' b sp hd f.resultTypes.toList ((Value.bool true).resultList f.resultTypes.size) [.lit (.bool true)] [] := by
    intro b sp hd
    rw [hr]
    exact trodAll_cons_mk (shut_bool htb _) trodAll_mk0
  refine ⟨ds, [], _, [], p, [], hW, by rw [hs1]; exact hres _ _ _, by rw [hs2]; exact hargs _ (fun x hx => by simpa using hlt x (List.mem_append_left _ hx)), by rw [hs3, hv]; rfl, hb.frame _, fun _ => ?_⟩
  refine ⟨ok_one hr rfl (okWide_bool_mk htb _), [.lit (.bool true)] ++ ds, [], ([] ++ p) ++ [], ⟨[] ++ p, [], ?_, ?_, rfl, ?_, ?_⟩, ?_⟩
  · skip
    exact trodAll_append (hargs _ (fun _ _ => rfl)) (hres _ _ _)
  · rw [hv]; rfl
  · intro b off hp
    have hin : MemPlace.cell b off ∈ p ++ [] := by simpa using hp
    rw [hb.frozen (p := ⟨b, off, none⟩) (hlt _ hin)]
    exact hz b off hin
  · intro ha
    simpa using hn ha
  · intro x hx _
    simpa using hx
end
end Go.Proofs.Ytkdmmomfolhfbaa
/-
  Plain laws of this verifier's own, over any program: a region that draws its order, whose first operations only read, or call what leaves old memory as it was (it may make memory), and whose last ones (stores) follow one another: one walk in the text's order serves every order. The two laws of the library on which it stands: a region of quiet operations over a class of worlds (Deep/Quiet), a quiet head before a tail in one world (StillTail).
-/
namespace Go.Proofs.Ytkdmmomfolhfbaa
set_option linter.unusedVariables false
set_option linter.unusedSimpArgs false
open Go.ChangeShapes Go.WideShapes Go.RowKit

section
variable {P : Program} {ops : Array Oper} {md : Region.Mode} {C : World → Prop}

/-- Whatever order is picked of the first 'n' operations; 'L' is asked where they have all come up. -/
def headAny (P : Program) (md : Region.Mode) (ops : Array Oper) (C : World → Prop) (n : Nat) (L : Array Bool → Act → Prop) : Nat → Array Bool → Act → Prop
  | 0, listed, a => L listed a
  | f + 1, listed, a => Region.ready md ops listed ≠ [] ∧ ∀ i ∈ Region.ready md ops listed, i < n ∧ qOp P ops C i (headAny P md ops C n L f (listed.setIfInBounds i true)) a

theorem any_of_head {n g : Nat} {L : Array Bool → Act → Prop} {Q' : Exit → Act → World → Prop} (hL : ∀ listed a w, C w → L listed a → wpAny P md ops Q' g listed a w) :
    ∀ (f : Nat) (listed : Array Bool) (a : Act) (w : World), C w → headAny P md ops C n L f listed a → wpAny P md ops Q' (f + g) listed a w
  | 0, listed, a, w, hw, h => by rw [Nat.zero_add]; exact hL _ _ _ hw h
  | f + 1, listed, a, w, hw, h => by
    rw [show f + 1 + g = (f + g) + 1 by omega]
    exact ⟨fun h0 => absurd h0 h.1, fun i hi => wpOp_of_qOp hw (fun a' w' hw' h' => any_of_head hL f _ a' w' hw' h') (h.2 i hi).2⟩

theorem head_first {n i : Nat} {oi : Oper} {v : Value} {L : Array Bool → Act → Prop} (hi : ops[i]? = some oi) (hsel : ∀ (j : Nat) (o : Oper) cs b, ops[j]? = some o → o.op ≠ .select cs b)
    (hs : Region.sinkB md ops n = true) (hc : Region.chainB md ops n = true) (hn : n < ops.size) (hin : i < n)
    (hdone : ∀ listed a, L listed a → ∀ j ∈ Region.ready md ops listed, n ≤ j) :
    ∀ (f : Nat) (listed : Array Bool) (a : Act), HeadInv md ops n listed →
      (∀ j oj, ops[j]? = some oj → j ≠ i → listed.getD j true = false → (∀ e ∈ oj.after, Region.binds md e = true → e.on ≠ i) → oi.apart ops oj = true) →
      i ∈ Region.ready md ops listed → YieldsIn P ops C oi v a →
      headAny P md ops C n L f (listed.setIfInBounds i true) (a.put oi.dst v) → headAny P md ops C n L (f + 1) listed a := by
  intro f
  induction f with
  | zero =>
    intro listed a inv _ hr hy H
    refine ⟨fun h => (by rw [h] at hr; cases hr), fun j hj => ?_⟩
    have hjn : j < n := Nat.lt_of_not_le fun h => tail_waits hs hc hn inv _ i rfl hin (mem_ready.1 hr).1 j h hj
    refine ⟨hjn, ?_⟩
    by_cases hji : j = i
    · subst hji; exact hy.qOp hi H
    · have := hdone _ _ H j (ready_mono hj hji)
      omega
  | succ f ih =>
    intro listed a inv hfree hr hy H
    have hun := (mem_ready.1 hr).1
    refine ⟨fun h => (by rw [h] at hr; cases hr), fun j hj => ?_⟩
    have hjn : j < n := Nat.lt_of_not_le fun h => tail_waits hs hc hn inv _ i rfl hin hun j h hj
    refine ⟨hjn, ?_⟩
    by_cases hji : j = i
    · subst hji; exact hy.qOp hi H
    · obtain ⟨hjun, oj, hoj, hall⟩ := mem_ready.1 hj
      have hnot : ∀ e ∈ oj.after, Region.binds md e = true → e.on ≠ i := fun e he hb heq => by
        have h1 := hall e he hb
        rw [heq, getD_both hun] at h1
        cases h1
      have h2 := qOp_put hoj (hfree j oj hoj hji hjun hnot) (fun cs b => hsel i oi cs b hi) (fun cs b => hsel j oj cs b hoj) hy (H.2 j (ready_mono hj hji)).2
      refine qOp_mono (fun a' h3 => ih (listed.setIfInBounds j true) a' (inv.set hj hjn) (fun k ok hk hki hku hno => hfree k ok hk hki ?_ hno) (ready_mono hr (Ne.symm hji)) h3.1 ?_) h2
      · by_cases hjk : j = k
        · subst hjk; exact hjun
        · rw [getD_set_ne true hjk] at hku; exact hku
      · rw [Array.setIfInBounds_comm _ _ hji]
        exact h3.2

theorem head_lex {n g : Nat} {Lq : Act → Prop} (hsel : Region.noSelect ops = true) (hs : Region.sinkB md ops n = true) (hc : Region.chainB md ops n = true) (hn : n < ops.size) :
    ∀ (l : List Oper) (k : Nat) (listed : Array Bool) (a : Act), (∀ j, j < l.length → l[j]? = ops[k + j]?) → k + l.length = n → HeadInv md ops n listed →
    Region.lexHead md ops g l.length k listed = true → wpQuiet P ops C Lq l a →
    headAny P md ops C n (fun listed' a' => Region.seqB md ops g n listed' = true ∧ Lq a') l.length listed a
  | [], k, listed, a, _, hk, _, hB, h => by
    obtain rfl : k = n := by simpa using hk
    exact ⟨by simpa [Region.lexHead] using hB, h⟩
  | o :: l, k, listed, a, hl, hk, inv, hB, h => by
    have h0 : ops[k]? = some o := by simpa using (hl 0 (by simp)).symm
    simp only [List.length_cons, Region.lexHead, Bool.and_eq_true] at hB
    obtain ⟨⟨hr, hf⟩, hB'⟩ := hB
    have hkn : k < n := by simp only [List.length_cons] at hk; omega
    have hr' : k ∈ Region.ready md ops listed := by simpa using hr
    have hst : qOp P ops C k (wpQuiet P ops C Lq l) a := by unfold qOp; simp only [h0]; exact h
    obtain ⟨v, hy, hK⟩ := yieldsIn_of_qOp h0 hst
    exact head_first h0 (Region.noSelect_spec hsel) hs hc hn hkn (fun listed' a' hL => seqB_ready hL.1) l.length listed a inv (Region.free_spec h0 hf) hr' hy
      (head_lex hsel hs hc hn l (k + 1) _ _ (fun j hj => by have := hl (j + 1) (by simp; omega); simpa [Nat.add_assoc, Nat.add_comm 1 j] using this) (by simp only [List.length_cons] at hk; omega) (inv.set hr' hkn) hB' hK)

theorem region_tail {id : Nat} {Q : Exit → Act → World → Prop} {a : Act} {w : World} {l : List Oper} (n : Nat) (hm : P.follows .mixedOrders = true) (hB : Region.lexTailB .any l.toArray n = true) (hC : C { w with drawn := w.drawn + 1 })
    (h : wpQuiet P l.toArray C (fun a' => ∀ w', C w' → wpList P l.toArray Q (l.drop n) a' w') (l.take n) a) : (Code.region id l.toArray true).wp P Q a w := by
  simp only [Region.lexTailB, Bool.and_eq_true, decide_eq_true_eq] at hB
  obtain ⟨⟨⟨⟨hsel, hn⟩, hs⟩, hc⟩, hlex⟩ := hB
  have hn' : n < l.length := by simpa using hn
  have htl : (l.take n).length = n := by simp; omega
  have hdl : (l.drop n).length = l.toArray.size - n := by simp
  have inv0 : HeadInv .any l.toArray n (Array.replicate l.toArray.size false) :=
    ⟨by simp, fun j oj _ hl => (by rw [getD_replicate_false] at hl; cases hl), fun t _ ht => getD_in (by simpa using ht) (getD_replicate_false _ _)⟩
  have H := head_lex (md := .any) (C := C) (g := l.toArray.size - n) hsel hs hc hn (l.take n) 0 _ a (fun j hj => by
    have hj' : j < n := by rw [htl] at hj; exact hj
    simp [hj']) (by simpa using htl) inv0 (by rw [htl]; exact hlex) h
  refine wp_region_any hm ?_
  have := any_of_head (Q' := Q) (g := l.toArray.size - n) (fun listed a' w' hw' hL => by
    have := wpAny_of_seq (md := .any) (Q' := Q) (l.drop n) n listed a' w' (fun j => by simp [List.getElem?_drop]) (by rw [hdl]; exact hL.1) (hL.2 w' hw')
    rwa [hdl] at this) _ _ _ _ hC H
  rw [htl, show n + (l.toArray.size - n) = l.toArray.size by omega] at this
  exact this
/-- At the class 'old memory is as it was'. -/
theorem region_below_tail {id : Nat} {Q : Exit → Act → World → Prop} {a : Act} {w : World} {l : List Oper} (n : Nat) (hm : P.follows .mixedOrders = true) (hB : Region.lexTailB .any l.toArray n = true)
    (h : ∀ w1 : World, Hid (w = w1) → wpQuiet P l.toArray (fun w' => ∃ p : Regrown, w' = Go.Sort.grow (redrawn w1 p.d) p.os) (fun a' => ∀ w', Below w1.heap.size w1 w' → wpList P l.toArray Q (l.drop n) a' w') (l.take n) a) : (Code.region id l.toArray true).wp P Q a w := by
  refine region_tail (C := fun w' => ∃ p : Regrown, w' = Go.Sort.grow (redrawn w p.d) p.os) n hm hB ⟨⟨w.drawn + 1, #[]⟩, by rw [Go.Sort.grow_empty]; rfl⟩ ?_
  have h2 := h w rfl
  have e : (fun a' => ∀ w', Below w.heap.size w w' → wpList P l.toArray Q (l.drop n) a' w') = (fun a' => ∀ w', (∃ p : Regrown, w' = Go.Sort.grow (redrawn w p.d) p.os) → wpList P l.toArray Q (l.drop n) a' w') := by
    funext a'
    apply propext
    exact ⟨fun h w' ⟨p, hp⟩ => h w' (by rw [hp]; exact below_regrown w p.d p.os), fun h w' hb => h w' (regrown_of_below hb)⟩
  rw [e] at h2
  exact h2
end
end Go.Proofs.Ytkdmmomfolhfbaa
namespace Go.Proofs.Ytkdmmomfolhfbaa
set_option linter.unusedVariables false
set_option linter.unusedSimpArgs false
open Go.ChangeShapes Go.WideShapes Go.RowKit

/-- The type of a value's cell i, where structs and arrays are laid flat. -/
def leafType (P : Program) : Nat → TypeId → Nat → Option TypeId
  | 0, _, _ => none
  | n + 1, t, i =>
    match P.underlying t with
    | some (.struct fs) => fs.toList.findSome? fun f => if f.offset ≤ i ∧ i < f.offset + P.cellsOf f.type then leafType P n f.type (i - f.offset) else none
    | some (.array m e) => if i / P.cellsOf e < m ∧ 0 < P.cellsOf e then leafType P n e (i % P.cellsOf e) else none
    | some (.int _) | some .bool | some .string | some (.slice _) => if i = 0 then some t else none
    | _ => none

section
variable {H : Type} {enc : TypeId × Value → H} {P : Program} {w : World} {base : Nat} {spare : Nat → Bool} {held : Bool}

theorem leaf_one {t : TypeId} {fuel : Nat} {cs : List Value} {x : DataW H × List MemPlace} (h : DataW.trod enc P w base spare held fuel t cs = some x)
    (hk : (∃ k, P.underlying t = some (.int k)) ∨ P.underlying t = some .bool ∨ P.underlying t = some .string ∨ ∃ e, P.underlying t = some (.slice e)) : ∃ v, cs = [v] := by
  cases fuel with
  | zero => simp [DataW.trod] at h
  | succ n =>
    unfold DataW.trod at h
    rcases hk with ⟨k, hk⟩ | hk | hk | ⟨e, hk⟩ <;> rw [hk] at h <;> split at h <;> first | exact ⟨_, rfl⟩ | simp_all

theorem leaf_at : ∀ (n : Nat) (t : TypeId) (i : Nat) (fuel : Nat) (cs : List Value) (x : DataW H × List MemPlace) (t' : TypeId),
    DataW.trod enc P w base spare held fuel t cs = some x → leafType P n t i = some t' → ∃ v m y, cs[i]? = some v ∧ DataW.trod enc P w base spare held m t' [v] = some y := by
  intro n
  induction n with
  | zero => intro t i fuel cs x t' h hl; simp [leafType] at hl
  | succ n ih =>
    intro t i fuel cs x t' h hl
    have leaf : ((∃ k, P.underlying t = some (.int k)) ∨ P.underlying t = some .bool ∨ P.underlying t = some .string ∨ ∃ e, P.underlying t = some (.slice e)) → i = 0 → t = t' → ∃ v m y, cs[i]? = some v ∧ DataW.trod enc P w base spare held m t' [v] = some y := by
      intro hk hi ht
      obtain ⟨v, rfl⟩ := leaf_one h hk
      subst hi ht
      exact ⟨v, fuel, x, rfl, h⟩
    unfold leafType at hl
    cases hu : P.underlying t with
    | none => rw [hu] at hl; simp at hl
    | some d =>
      rw [hu] at hl
      cases d with
      | struct fs =>
        simp only at hl
        obtain ⟨f, hf, hfi⟩ := List.exists_of_findSome?_eq_some hl
        split at hfi
        · rename_i hb
          obtain ⟨xs, m, _, _, hlen, hxl, hat⟩ := DataW.trod_struct hu h
          obtain ⟨j, hj, hjf⟩ := List.getElem_of_mem hf
          have hj2 : fs[j]? = some f := by
            rw [← Array.getElem?_toList, List.getElem?_eq_getElem hj, hjf]
          have h1 := hat j f hj2
          have hjx : j < xs.length := by rw [hxl]; simpa using hj
          rw [List.getElem?_eq_getElem hjx] at h1
          obtain ⟨v, m', y, hv, hy⟩ := ih _ _ _ _ _ _ h1 hfi
          refine ⟨v, m', y, ?_, hy⟩
          rw [List.getElem?_take] at hv
          split at hv
          · rw [List.getElem?_drop] at hv
            rw [← hv]; congr 1; omega
          · simp at hv
        · simp at hfi
      | array k e =>
        simp only at hl
        split at hl
        · rename_i hb
          obtain ⟨xs, m, _, _, hlen, hxl, hat⟩ := DataW.trod_array hu h
          have h1 := hat _ hb.1
          rw [List.getElem?_eq_getElem (by omega)] at h1
          obtain ⟨v, m', y, hv, hy⟩ := ih _ _ _ _ _ _ h1 hl
          refine ⟨v, m', y, ?_, hy⟩
          rw [List.getElem?_take] at hv
          split at hv
          · rw [List.getElem?_drop] at hv
            rw [← hv]; congr 1
            have := Nat.div_add_mod i (P.cellsOf e)
            rw [Nat.mul_comm] at this
            exact this.symm
          · simp at hv
        · simp at hl
      | int k => simp only at hl; split at hl <;> simp_all
      | bool => simp only at hl; split at hl <;> simp_all
      | string => simp only at hl; split at hl <;> simp_all
      | slice e => simp only at hl; split at hl <;> simp_all
      | _ => simp at hl

/-- Cell i of a struct or an array by value is a number, with its kind's bounds. -/
theorem leaf_int (n : Nat) {t t' : TypeId} {i : Nat} {k : IntKind} {cs : Array Value} {v : Value} {d : DataW H} {p : List MemPlace} (h : DataW.Trod enc P w base spare held t (.agg cs) d p)
    (hl : leafType P n t i = some t') (hk : P.underlying t' = some (.int k)) (hv : cs[i]? = some v) : ∃ a : Int, v = .int k a ∧ (Lit.int k a).wf = true := by
  obtain ⟨fuel, hf⟩ := h
  obtain ⟨u, m, y, hu, hy⟩ := leaf_at n t i fuel _ _ _ hf hl
  simp only [Value.cells, Array.getElem?_toList, hv, Option.some.injEq] at hu
  subst hu
  obtain ⟨a, h1, _, h3⟩ := DataW.trod_int hk hy
  simp at h1
  exact ⟨a, h1, h3⟩
theorem leaf_bool (n : Nat) {t t' : TypeId} {i : Nat} {cs : Array Value} {v : Value} {d : DataW H} {p : List MemPlace} (h : DataW.Trod enc P w base spare held t (.agg cs) d p)
    (hl : leafType P n t i = some t') (hk : P.underlying t' = some .bool) (hv : cs[i]? = some v) : ∃ a : Bool, v = .bool a := by
  obtain ⟨fuel, hf⟩ := h
  obtain ⟨u, m, y, hu, hy⟩ := leaf_at n t i fuel _ _ _ hf hl
  simp only [Value.cells, Array.getElem?_toList, hv, Option.some.injEq] at hu
  subst hu
  obtain ⟨a, h1, _⟩ := DataW.trod_bool hk hy
  simp at h1
  exact ⟨a, h1⟩
theorem leaf_string (n : Nat) {t t' : TypeId} {i : Nat} {cs : Array Value} {v : Value} {d : DataW H} {p : List MemPlace} (h : DataW.Trod enc P w base spare held t (.agg cs) d p)
    (hl : leafType P n t i = some t') (hk : P.underlying t' = some .string) (hv : cs[i]? = some v) : ∃ a : ByteArray, v = .string a ∧ a.size ≤ maxLen := by
  obtain ⟨fuel, hf⟩ := h
  obtain ⟨u, m, y, hu, hy⟩ := leaf_at n t i fuel _ _ _ hf hl
  simp only [Value.cells, Array.getElem?_toList, hv, Option.some.injEq] at hu
  subst hu
  obtain ⟨a, h1, _, h3⟩ := DataW.trod_string hk hy
  simp at h1
  exact ⟨a, h1, h3⟩
/-- Cell i is a slice: its own reading. -/
theorem leaf_slice (n : Nat) {t t' : TypeId} {i : Nat} {cs : Array Value} {v : Value} {d : DataW H} {p : List MemPlace} (h : DataW.Trod enc P w base spare held t (.agg cs) d p)
    (hl : leafType P n t i = some t') (hv : cs[i]? = some v) : ∃ m y, DataW.trod enc P w base spare held m t' [v] = some y := by
  obtain ⟨fuel, hf⟩ := h
  obtain ⟨u, m, y, hu, hy⟩ := leaf_at n t i fuel _ _ _ hf hl
  simp only [Value.cells, Array.getElem?_toList, hv, Option.some.injEq] at hu
  subst hu
  exact ⟨m, y, hy⟩

theorem okWide_array {r : Reach} {b0 n : Nat} {e t : TypeId} {v : Value} (ht : P.underlying t = some (.array n e)) (h : Value.okWide P w r b0 t v) : ∃ cs, v = .agg cs ∧ cs.size = P.cellsOf t := by
  simp only [Value.okWide, ht] at h
  obtain ⟨cs, h1, h2, _⟩ := h
  exact ⟨cs, h1, h2⟩
end
end Go.Proofs.Ytkdmmomfolhfbaa
/-
  Slices of structs of two integers, as they lie in memory.
-/
namespace Go.Proofs.Ytkdmmomfolhfbaa
set_option linter.unusedVariables false
set_option linter.unusedSimpArgs false
open Go.ChangeShapes Go.WideShapes Go.RowKit

/-- The value 'v' is a slice of 'n' structs of two integers (of none: whatever it points to): the integers 'f 0', 'f 1', .. -/
def Prs (w : World) (v : Value) (n : Nat) (f : Nat → Int) : Prop :=
  (n = 0 ∧ ∃ p c, v = .slice p 0 c) ∨ ∃ b o cap : Nat, v = .slice (some ⟨b, o, none⟩) n cap ∧ b < w.heap.size ∧ ∀ j, j < 2 * n → w.cell? ⟨b, o + j, none⟩ = some (.int .i64 (f j))
theorem Prs.below {w w' : World} {v : Value} {n : Nat} {f : Nat → Int} (h : Prs w v n f) (hb : Below w.heap.size w w') : Prs w' v n f := by
  rcases h with h | ⟨b, o, cap, rfl, hlt, h⟩
  · exact Or.inl h
  · exact Or.inr ⟨b, o, cap, rfl, Nat.lt_of_lt_of_le hlt hb.size, fun j hj => by rw [hb.cell (p := ⟨b, o + j, none⟩) hlt]; exact h j hj⟩
/-- Are they the same, one by one? -/
def sameB (n m : Nat) (f g : Nat → Int) : Bool := decide (n = m ∧ ∀ j, j < 2 * n → f j = g j)
theorem same_yes {n : Nat} {f g : Nat → Int} (h : ∀ j, j < 2 * n → f j = g j) : sameB n n f g = true := decide_eq_true ⟨rfl, h⟩
theorem same_no {n m : Nat} {f g : Nat → Int} (h : ¬ (n = m ∧ ∀ j, j < 2 * n → f j = g j)) : sameB n m f g = false := decide_eq_false h
/-- The value 'v' is a slice of 'n' strings. -/
def Strs (w : World) (v : Value) (n : Nat) (s : Nat → ByteArray) : Prop :=
  (n = 0 ∧ ∃ p c, v = .slice p 0 c) ∨ ∃ b o cap : Nat, v = .slice (some ⟨b, o, none⟩) n cap ∧ b < w.heap.size ∧ ∀ j, j < n → w.cell? ⟨b, o + j, none⟩ = some (.string (s j))
theorem Strs.below {w w' : World} {v : Value} {n : Nat} {s : Nat → ByteArray} (h : Strs w v n s) (hb : Below w.heap.size w w') : Strs w' v n s := by
  rcases h with h | ⟨b, o, cap, rfl, hlt, h⟩
  · exact Or.inl h
  · exact Or.inr ⟨b, o, cap, rfl, Nat.lt_of_lt_of_le hlt hb.size, fun j hj => by rw [hb.cell (p := ⟨b, o + j, none⟩) hlt]; exact h j hj⟩
theorem Prs.like {w : World} {v : Value} {n : Nat} {f g : Nat → Int} (h : Prs w v n f) (e : ∀ j, j < 2 * n → f j = g j) : Prs w v n g := by
  rcases h with h | ⟨b, o, cap, rfl, hlt, h⟩
  · exact Or.inl h
  · exact Or.inr ⟨b, o, cap, rfl, hlt, fun j hj => by rw [← e j hj]; exact h j hj⟩
theorem Prs.form {w : World} {v : Value} {n : Nat} {f : Nat → Int} (h : Prs w v n f) : ∃ p cap, v = .slice p n cap := by
  rcases h with ⟨rfl, p, c, rfl⟩ | ⟨b, o, cap, rfl, -, -⟩
  · exact ⟨_, _, rfl⟩
  · exact ⟨_, _, rfl⟩
theorem Strs.form {w : World} {v : Value} {n : Nat} {f : Nat → ByteArray} (h : Strs w v n f) : ∃ p cap, v = .slice p n cap := by
  rcases h with ⟨rfl, p, c, rfl⟩ | ⟨b, o, cap, rfl, -, -⟩
  · exact ⟨_, _, rfl⟩
  · exact ⟨_, _, rfl⟩
theorem Prs.some {w : World} {p : Option Addr} {n c : Nat} {f : Nat → Int} (h : Prs w (.slice p n c) n f) (hn : 0 < n) : ∃ b o, p = Option.some ⟨b, o, none⟩ ∧ b < w.heap.size ∧ ∀ j, j < 2 * n → w.cell? ⟨b, o + j, none⟩ = Option.some (.int .i64 (f j)) := by
  rcases h with ⟨h0, -⟩ | ⟨b, o, cap, e, hb, h⟩
  · omega
  · injection e with e _ _
    exact ⟨b, o, e, hb, h⟩
theorem two_cells {w wr : World} {b o n K : Nat} {f : Nat → Int} (h : ∀ j, j < 2 * n → w.cell? ⟨b, o + j, none⟩ = some (.int .i64 (f j))) (hb : Below w.heap.size w wr) (hlt : K < n) :
    wr.cell? ⟨b, o + K * 2, none⟩ = some (.int .i64 (f (K * 2))) ∧ wr.cell? ⟨b, o + K * 2 + 1, none⟩ = some (.int .i64 (f (K * 2 + 1))) := by
  have e0 := h (K * 2) (by omega)
  have e1 := h (K * 2 + 1) (by omega)
  exact ⟨by rw [hb.cell (block_lt_of_cell e0)]; exact e0, by rw [show o + K * 2 + 1 = o + (K * 2 + 1) by omega, hb.cell (block_lt_of_cell e1)]; exact e1⟩
/-- Block 'b' holds the integers 'f 0', .., 'f (n - 1)', and they may be written. -/
def Ints (w : World) (b n : Nat) (f : Nat → Int) : Prop := b < w.heap.size ∧ ∀ j, j < n → w.cell? ⟨b, j, none⟩ = some (.int .i64 (f j)) ∧ w.frozen? ⟨b, j, none⟩ = false
theorem Ints.made (w : World) (n : Nat) (t : TypeId) : Ints (w.alloc (.cells (madeCells #[.int .i64 0, .int .i64 0] n) t)) w.heap.size n (fun _ => 0) := by
  refine ⟨by simp, fun j hj => ⟨?_, World.frozen?_alloc_at _ t _ j rfl⟩⟩
  refine range_cell (range_new w (madeCells #[.int .i64 0, .int .i64 0] n) t) j ?_
  have h2 : j % 2 = 0 ∨ j % 2 = 1 := by omega
  rcases h2 with h2 | h2 <;> simp [madeCells, hj, h2]
theorem Ints.set {w : World} {b n : Nat} {f : Nat → Int} (h : Ints w b n f) (j0 : Nat) (x : Int) (hj0 : j0 < n) (g : Nat → Int) (hg : ∀ j, g j = if j = j0 then x else f j) :
    Ints (w.setCell ⟨b, j0, none⟩ (.int .i64 x)) b n g := by
  refine ⟨by simpa using h.1, fun j hj => ⟨?_, by rw [World.frozen?_setCell]; exact (h.2 j hj).2⟩⟩
  have hr : w.rangeAt b 0 ((List.range n).map fun j => Value.int .i64 (f j)) := fun i v hv => by
    have hi : i < n := by
      have := (List.getElem?_eq_some_iff.1 hv).1
      simpa using this
    rw [List.getElem?_map, List.getElem?_range hi] at hv
    simp at hv
    subst hv
    simpa using (h.2 i hi).1
  have h2 := range_put hr j0 (.int .i64 x) (ds := (List.range n).map fun j => Value.int .i64 (g j)) (by
    apply List.ext_getElem?
    intro i
    by_cases hi : i < n
    · by_cases e : i = j0
      · subst e
        simp [hi, hg]
      · rw [List.getElem?_set_ne (Ne.symm e), List.getElem?_map, List.getElem?_map, List.getElem?_range hi]
        simp [hg, e]
    · rw [List.getElem?_eq_none (by simp; omega), List.getElem?_eq_none (by simp; omega)])
  exact range_cell h2 j (by simp [hj])
theorem Ints.below {w w' : World} {b n : Nat} {f : Nat → Int} (h : Ints w b n f) (hb : Below w.heap.size w w') : Ints w' b n f :=
  ⟨Nat.lt_of_lt_of_le h.1 hb.size, fun j hj => ⟨by rw [hb.cell (p := ⟨b, j, none⟩) h.1]; exact (h.2 j hj).1, by rw [hb.frozen (p := ⟨b, j, none⟩) h.1]; exact (h.2 j hj).2⟩⟩
theorem Ints.alloc {w : World} {b n : Nat} {f : Nat → Int} (h : Ints w b n f) (o : Obj) : Ints (w.alloc o) b n f := h.below ((Below.refl _ w).alloc (Nat.le_refl _) o)
theorem Ints.drewN {w : World} {b n : Nat} {f : Nat → Int} (h : Ints w b n f) (k : Nat) : Ints (w.drewN k) b n f := h
/-- It reads as a slice of structs of two integers. -/
theorem Ints.prs {w : World} {b n cap : Nat} {f : Nat → Int} (h : Ints w b (2 * n) f) : Prs w (.slice (some ⟨b, 0, none⟩) n cap) n f :=
  Or.inr ⟨b, 0, cap, rfl, h.1, fun j hj => by rw [Nat.zero_add]; exact (h.2 j hj).1⟩
end Go.Proofs.Ytkdmmomfolhfbaa
/-
  A row that the call owns (made by append), as integers in memory.
-/
namespace Go.Proofs.Ytkdmmomfolhfbaa
set_option linter.unusedVariables false
set_option linter.unusedSimpArgs false
open Go.ChangeShapes Go.WideShapes Go.RowKit

theorem owns_at {w : World} {g : Nat} {cur : Array Value} {e : TypeId} (hb : w.heap[g]? = some (.cells cur e (0, 0))) {j : Nat} {v : Value} (h : cur[j]? = some v) : w.cell? ⟨g, j, none⟩ = some v ∧ w.frozen? ⟨g, j, none⟩ = false := by
  constructor
  · simp [World.cell?, hb, h]
  · simp [World.frozen?, hb]
theorem take_at {l : List Value} {k j : Nat} {xs : List Value} (h : l.take k = xs) (hj : j < k) : l[j]? = xs[j]? := by
  rw [← h, List.getElem?_take, if_pos hj]
/-- The row that a call owns holds these integers. -/
theorem Ints.of_owns {w : World} {base g n cap : Nat} {e : TypeId} {xs : List Value} {f : Nat → Int} (h : w.ownsRow base e 2 (.slice (some ⟨g, 0, none⟩) n cap) n xs) (hn : 0 < n) (hx : ∀ j, j < 2 * n → xs[j]? = some (.int .i64 (f j))) : Ints w g (2 * n) f ∧ base ≤ g := by
  rcases h.2 with ⟨h0, -⟩ | ⟨g', cap', cur, hv, hb, hg, h1, h2, h3, h4⟩
  · cases h0
  · injection hv with hv _ hc
    injection hv with hv
    injection hv with hv
    subst hv
    refine ⟨⟨(Array.getElem?_eq_some_iff.1 hg).1, fun j hj => ?_⟩, hb⟩
    have hj2 := take_at h4 (j := j) (by omega)
    rw [hx j hj] at hj2
    exact owns_at hg (by rw [← Array.getElem?_toList]; exact hj2)
theorem Prs.of_owns {w : World} {base n : Nat} {e : TypeId} {v : Value} {xs : List Value} {f : Nat → Int} (h : w.ownsRow base e 2 v n xs) (hx : ∀ j, j < 2 * n → xs[j]? = Option.some (.int .i64 (f j))) : Prs w v n f := by
  rcases h.2 with ⟨rfl, h0⟩ | ⟨g, cap, cur, rfl, hb, hg, h1, h2, h3, h4⟩
  · exact Or.inl ⟨h0, _, _, rfl⟩
  · refine Or.inr ⟨g, 0, cap, rfl, (Array.getElem?_eq_some_iff.1 hg).1, fun j hj => ?_⟩
    have hj2 := take_at h4 (j := j) (by omega)
    rw [hx j hj] at hj2
    rw [Nat.zero_add]
    exact (owns_at hg (by rw [← Array.getElem?_toList]; exact hj2)).1
/-- The cells of a slice of structs of two integers, as a list. -/
def listOf (n : Nat) (f : Nat → Int) : List Value := (List.range (2 * n)).map fun j => .int .i64 (f j)
theorem listOf_len (n : Nat) (f : Nat → Int) : (listOf n f).length = n * 2 := by simp [listOf, Nat.mul_comm]
theorem listOf_at (n : Nat) (f : Nat → Int) (j : Nat) (hj : j < 2 * n) : (listOf n f)[j]? = some (.int .i64 (f j)) := by simp [listOf, hj]
theorem listOf_one (n : Nat) (f : Nat → Int) : ∀ u ∈ listOf n f, u.oneCell' = true := by
  intro u hu
  simp only [listOf, List.mem_map] at hu
  obtain ⟨j, -, rfl⟩ := hu
  rfl
theorem listOf_cells {w : World} {b o n : Nat} {f : Nat → Int} (h : ∀ j, j < 2 * n → w.cell? ⟨b, o + j, none⟩ = some (.int .i64 (f j))) : ∀ j u, (listOf n f)[j]? = some u → w.cell? ((⟨b, o, none⟩ : Addr).add j) = some u := by
  intro j u hu
  have hj : j < 2 * n := by
    have := (List.getElem?_eq_some_iff.1 hu).1
    rw [listOf_len] at this
    omega
  rw [listOf_at n f j hj] at hu
  injection hu with hu
  subst hu
  have e := h j hj
  by_cases j0 : j = 0
  · subst j0
    simpa [Addr.add] using e
  · simpa [Addr.add, j0] using e
end Go.Proofs.Ytkdmmomfolhfbaa
/-
  Plain laws of this verifier's own, over any program: an argument (or a cell of one) that is a slice of structs of two integers, or of strings, as it is read.
-/
namespace Go.Proofs.Ytkdmmomfolhfbaa
set_option linter.unusedVariables false
set_option linter.unusedSimpArgs false
open Go.ChangeShapes Go.WideShapes Go.RowKit
open Go.Deep

section
variable {H : Type} {enc : TypeId × Value → H} {P : Program} {w : World} {spare : Nat → Bool} {held : Bool}

def numOf : Value → Int | .int _ a => a | _ => 0
def strOf : Value → ByteArray | .string s => s | _ => ByteArray.empty
theorem add_none (b o i : Nat) : (⟨b, o, none⟩ : Addr).add i = ⟨b, o + i, none⟩ := by
  unfold Addr.add
  split
  · subst_vars; rfl
  · rfl
/-- A slice of structs of two integers. -/
theorem prs_of {t e : TypeId} {f0 f1 : Field} {fuel : Nat} {v : Value} {x : DataW H × List MemPlace} (ht : P.underlying t = some (.slice e)) (he : P.underlying e = some (.struct #[f0, f1]))
    (ce : P.cellsOf e = 2) (o0 : f0.offset = 0) (o1 : f1.offset = 1) (c0 : P.cellsOf f0.type = 1) (c1 : P.cellsOf f1.type = 1)
    (k0 : P.underlying f0.type = some (.int .i64)) (k1 : P.underlying f1.type = some (.int .i64))
    (h : DataW.trod enc P w 0 spare held fuel t [v] = some x) : ∃ (n : Nat) (f : Nat → Int), n ≤ maxLen ∧ Prs w v n f ∧ ∀ j, j < 2 * n → -9223372036854775808 ≤ f j ∧ f j ≤ 9223372036854775807 := by
  rcases open_slice_pairs ht he ce o0 o1 c0 c1 h with ⟨h0, -⟩ | ⟨a, len, cap, m, n, V0, V1, D0, D1, P0, P1, hcs, -, hl, hm, hmm, -, hx⟩
  · simp only [List.cons.injEq, and_true] at h0
    exact ⟨0, fun _ => 0, Nat.zero_le _, Or.inl ⟨rfl, _, _, h0⟩, fun j hj => by omega⟩
  · simp only [List.cons.injEq, and_true] at hcs
    subst hcs
    have hlm : len ≤ m := by rw [hmm]; split <;> omega
    by_cases hl0 : len = 0
    · subst hl0
      exact ⟨0, fun _ => 0, Nat.zero_le _, Or.inl ⟨rfl, _, _, rfl⟩, fun j hj => by omega⟩
    · have h0 := (hx 0 (by omega)).1
      obtain ⟨b, o, sp⟩ := a
      obtain rfl : sp = none := by simpa [Addr.add] using World.cell?_spot h0
      have g : ∀ j, j < 2 * len → ∃ z : Int, (if j % 2 = 0 then V0 (j / 2) else V1 (j / 2)) = .int .i64 z ∧ w.cell? ⟨b, o + j, none⟩ = some (.int .i64 z) ∧ -9223372036854775808 ≤ z ∧ z ≤ 9223372036854775807 := by
        intro j hj
        obtain ⟨q0, q1, t0, t1⟩ := hx (j / 2) (by omega)
        rw [add_none] at q0 q1
        by_cases hp : j % 2 = 0
        · obtain ⟨z, h1, -, h3⟩ := DataW.trod_int k0 t0
          simp only [List.cons.injEq, and_true] at h1
          rw [if_pos hp, h1]
          rw [h1, show o + j / 2 * 2 = o + j by omega] at q0
          exact ⟨z, rfl, q0, bounds_i64 h3⟩
        · obtain ⟨z, h1, -, h3⟩ := DataW.trod_int k1 t1
          simp only [List.cons.injEq, and_true] at h1
          rw [if_neg hp, h1]
          rw [h1, show o + (j / 2 * 2 + 1) = o + j by omega] at q1
          exact ⟨z, rfl, q1, bounds_i64 h3⟩
      refine ⟨len, fun j => numOf (if j % 2 = 0 then V0 (j / 2) else V1 (j / 2)), Nat.le_trans hl hm, Or.inr ⟨b, o, cap, rfl, ?_, fun j hj => ?_⟩, fun j hj => ?_⟩
      · rw [add_none] at h0
        exact block_lt_of_cell h0
      · obtain ⟨z, e, hc, -⟩ := g j hj
        show _ = Option.some (Value.int .i64 (numOf _))
        rw [e]
        exact hc
      · obtain ⟨z, e, -, hb⟩ := g j hj
        show _ ≤ numOf _ ∧ numOf _ ≤ _
        rw [e]
        exact hb
/-- A slice of strings. -/
theorem strs_of {t e : TypeId} {fuel : Nat} {v : Value} {x : DataW H × List MemPlace} (ht : P.underlying t = some (.slice e)) (he : P.underlying e = some .string) (ce : P.cellsOf e = 1)
    (h : DataW.trod enc P w 0 spare held fuel t [v] = some x) : ∃ (n : Nat) (s : Nat → ByteArray), n ≤ maxLen ∧ Strs w v n s ∧ ∀ j, j < n → (s j).size ≤ maxLen := by
  rcases open_slice1 ht ce h with ⟨h0, -⟩ | ⟨a, len, cap, m, n, V, D, Pl, hcs, -, hl, hm, hmm, -, hx⟩
  · simp only [List.cons.injEq, and_true] at h0
    exact ⟨0, fun _ => ByteArray.empty, Nat.zero_le _, Or.inl ⟨rfl, _, _, h0⟩, fun j hj => by omega⟩
  · simp only [List.cons.injEq, and_true] at hcs
    subst hcs
    have hlm : len ≤ m := by rw [hmm]; split <;> omega
    by_cases hl0 : len = 0
    · subst hl0
      exact ⟨0, fun _ => ByteArray.empty, Nat.zero_le _, Or.inl ⟨rfl, _, _, rfl⟩, fun j hj => by omega⟩
    · have h0 := (hx 0 (by omega)).1
      obtain ⟨b, o, sp⟩ := a
      obtain rfl : sp = none := by simpa [Addr.add] using World.cell?_spot h0
      have g : ∀ j, j < len → ∃ z : ByteArray, V j = .string z ∧ w.cell? ⟨b, o + j, none⟩ = some (.string z) ∧ z.size ≤ maxLen := by
        intro j hj
        obtain ⟨q0, t0⟩ := hx j (by omega)
        rw [add_none] at q0
        obtain ⟨z, h1, -, h3⟩ := DataW.trod_string he t0
        simp only [List.cons.injEq, and_true] at h1
        rw [h1] at q0
        exact ⟨z, h1, q0, h3⟩
      refine ⟨len, fun j => strOf (V j), Nat.le_trans hl hm, Or.inr ⟨b, o, cap, rfl, ?_, fun j hj => ?_⟩, fun j hj => ?_⟩
      · rw [add_none] at h0
        exact block_lt_of_cell h0
      · obtain ⟨z, e, hc, -⟩ := g j hj
        show _ = Option.some (Value.string (strOf _))
        rw [e]
        exact hc
      · obtain ⟨z, e, -, hb⟩ := g j hj
        show (strOf _).size ≤ _
        rw [e]
        exact hb
end
end Go.Proofs.Ytkdmmomfolhfbaa
/-
  Plain laws of this verifier's own, over any program: an argument (or a cell of one) that is a slice of bytes, or of slices of structs of two integers, as it is read.
-/
namespace Go.Proofs.Ytkdmmomfolhfbaa
set_option linter.unusedVariables false
set_option linter.unusedSimpArgs false
open Go.ChangeShapes Go.WideShapes Go.RowKit
open Go.Deep

/-- The value 'v' is a slice of 'n' bytes. -/
def Bts (w : World) (v : Value) (n : Nat) (s : Nat → Nat) : Prop :=
  (n = 0 ∧ ∃ p c, v = .slice p 0 c) ∨ ∃ b o cap : Nat, v = .slice (some ⟨b, o, none⟩) n cap ∧ b < w.heap.size ∧ ∀ j, j < n → w.cell? ⟨b, o + j, none⟩ = some (.int .u8 (s j))
theorem Bts.below {w w' : World} {v : Value} {n : Nat} {s : Nat → Nat} (h : Bts w v n s) (hb : Below w.heap.size w w') : Bts w' v n s := by
  rcases h with h | ⟨b, o, cap, rfl, hlt, h⟩
  · exact Or.inl h
  · exact Or.inr ⟨b, o, cap, rfl, Nat.lt_of_lt_of_le hlt hb.size, fun j hj => by rw [hb.cell (p := ⟨b, o + j, none⟩) hlt]; exact h j hj⟩
theorem Bts.form {w : World} {v : Value} {n : Nat} {s : Nat → Nat} (h : Bts w v n s) : ∃ p cap, v = .slice p n cap := by
  rcases h with ⟨rfl, p, c, rfl⟩ | ⟨b, o, cap, rfl, -, -⟩
  · exact ⟨_, _, rfl⟩
  · exact ⟨_, _, rfl⟩
theorem Bts.some {w : World} {p : Option Addr} {n c : Nat} {s : Nat → Nat} (h : Bts w (.slice p n c) n s) (hn : 0 < n) : ∃ b o, p = Option.some ⟨b, o, none⟩ ∧ b < w.heap.size ∧ ∀ j, j < n → w.cell? ⟨b, o + j, none⟩ = Option.some (.int .u8 (s j)) := by
  rcases h with ⟨h0, -⟩ | ⟨b, o, cap, e, hb, h⟩
  · omega
  · injection e with e _ _
    exact ⟨b, o, e, hb, h⟩
section
variable {H : Type} {enc : TypeId × Value → H} {P : Program} {w : World} {spare : Nat → Bool} {held : Bool}
/-- A slice of bytes. -/
theorem bts_of {t e : TypeId} {fuel : Nat} {v : Value} {x : DataW H × List MemPlace} (ht : P.underlying t = some (.slice e)) (he : P.underlying e = some (.int .u8)) (ce : P.cellsOf e = 1)
    (h : DataW.trod enc P w 0 spare held fuel t [v] = some x) : ∃ (n : Nat) (s : Nat → Nat), n ≤ maxLen ∧ Bts w v n s ∧ ∀ j, j < n → s j < 256 := by
  rcases open_slice1 ht ce h with ⟨h0, -⟩ | ⟨a, len, cap, m, n, V, D, Pl, hcs, -, hl, hm, hmm, -, hx⟩
  · simp only [List.cons.injEq, and_true] at h0
    exact ⟨0, fun _ => 0, Nat.zero_le _, Or.inl ⟨rfl, _, _, h0⟩, fun j hj => by omega⟩
  · simp only [List.cons.injEq, and_true] at hcs
    subst hcs
    have hlm : len ≤ m := by rw [hmm]; split <;> omega
    by_cases hl0 : len = 0
    · subst hl0
      exact ⟨0, fun _ => 0, Nat.zero_le _, Or.inl ⟨rfl, _, _, rfl⟩, fun j hj => by omega⟩
    · have h0 := (hx 0 (by omega)).1
      obtain ⟨b, o, sp⟩ := a
      obtain rfl : sp = none := by simpa [Addr.add] using World.cell?_spot h0
      have g : ∀ j, j < len → ∃ z : Int, V j = .int .u8 z ∧ w.cell? ⟨b, o + j, none⟩ = some (.int .u8 z) ∧ 0 ≤ z ∧ z < 256 := by
        intro j hj
        obtain ⟨q0, t0⟩ := hx j (by omega)
        rw [add_none] at q0
        obtain ⟨z, h1, -, h3⟩ := DataW.trod_int he t0
        simp only [List.cons.injEq, and_true] at h1
        rw [h1] at q0
        have := bounds_u8 h3
        exact ⟨z, h1, q0, by omega, by omega⟩
      refine ⟨len, fun j => (numOf (V j)).toNat, Nat.le_trans hl hm, Or.inr ⟨b, o, cap, rfl, ?_, fun j hj => ?_⟩, fun j hj => ?_⟩
      · rw [add_none] at h0
        exact block_lt_of_cell h0
      · obtain ⟨z, e, hc, h0, -⟩ := g j hj
        show _ = Option.some (Value.int .u8 ((numOf (V j)).toNat : Nat))
        rw [e]
        show _ = Option.some (Value.int .u8 (z.toNat : Nat))
        rw [Int.toNat_of_nonneg h0]
        exact hc
      · obtain ⟨z, e, -, h0, h1⟩ := g j hj
        show (numOf (V j)).toNat < 256
        rw [e]
        show z.toNat < 256
        omega
end
end Go.Proofs.Ytkdmmomfolhfbaa
/-
  Blocks of values of any kind, as they lie in memory: read and written in parts (plain laws of this verifier's own).
-/
namespace Go.Proofs.Ytkdmmomfolhfbaa
set_option linter.unusedVariables false
set_option linter.unusedSimpArgs false
open Go.ChangeShapes Go.WideShapes Go.RowKit

/-- Block 'b' holds the values 'g 0', .., 'g (n - 1)', and they may be written. -/
def Vls (w : World) (b n : Nat) (g : Nat → Value) : Prop := b < w.heap.size ∧ ∀ j, j < n → w.cell? ⟨b, j, none⟩ = some (g j) ∧ w.frozen? ⟨b, j, none⟩ = false
theorem Vls.set {w : World} {b n : Nat} {f : Nat → Value} (h : Vls w b n f) (j0 : Nat) (x : Value) (hj0 : j0 < n) (g : Nat → Value) (hg : ∀ j, g j = if j = j0 then x else f j) :
    Vls (w.setCell ⟨b, j0, none⟩ x) b n g := by
  refine ⟨by simpa using h.1, fun j hj => ⟨?_, by rw [World.frozen?_setCell]; exact (h.2 j hj).2⟩⟩
  have hr : w.rangeAt b 0 ((List.range n).map fun j => f j) := fun i v hv => by
    have hi : i < n := by
      have := (List.getElem?_eq_some_iff.1 hv).1
      simpa using this
    rw [List.getElem?_map, List.getElem?_range hi] at hv
    simp at hv
    subst hv
    simpa using (h.2 i hi).1
  have h2 := range_put hr j0 x (ds := (List.range n).map fun j => g j) (by
    apply List.ext_getElem?
    intro i
    by_cases hi : i < n
    · by_cases e : i = j0
      · subst e
        simp [hi, hg]
      · rw [List.getElem?_set_ne (Ne.symm e), List.getElem?_map, List.getElem?_map, List.getElem?_range hi]
        simp [hg, e]
    · rw [List.getElem?_eq_none (by simp; omega), List.getElem?_eq_none (by simp; omega)])
  exact range_cell h2 j (by simp [hj])
theorem Vls.below {w w' : World} {b n : Nat} {f : Nat → Value} (h : Vls w b n f) (hb : Below w.heap.size w w') : Vls w' b n f :=
  ⟨Nat.lt_of_lt_of_le h.1 hb.size, fun j hj => ⟨by rw [hb.cell (p := ⟨b, j, none⟩) h.1]; exact (h.2 j hj).1, by rw [hb.frozen (p := ⟨b, j, none⟩) h.1]; exact (h.2 j hj).2⟩⟩
theorem Vls.alloc {w : World} {b n : Nat} {f : Nat → Value} (h : Vls w b n f) (o : Obj) : Vls (w.alloc o) b n f := h.below ((Below.refl _ w).alloc (Nat.le_refl _) o)
theorem Vls.other {w : World} {b n : Nat} {f : Nat → Value} (h : Vls w b n f) (b' j : Nat) (v : Value) (hb : b' ≠ b) : Vls (w.setCell ⟨b', j, none⟩ v) b n f :=
  ⟨by simpa using h.1, fun i hi => ⟨by rw [World.cell?_setCell_other _ _ _ _ (by intro e; injection e with e; exact hb e)]; exact (h.2 i hi).1, by rw [World.frozen?_setCell]; exact (h.2 i hi).2⟩⟩
theorem Vls.like {w : World} {b n : Nat} {f g : Nat → Value} (h : Vls w b n f) (e : ∀ j, j < n → f j = g j) : Vls w b n g :=
  ⟨h.1, fun j hj => by rw [← e j hj]; exact h.2 j hj⟩
theorem below_cells {B b : Nat} {a : World} (hb : B ≤ b) : ∀ (vs : List Value) (o : Nat) (w : World), Below B a w → Below B a (w.setCells b o vs)
  | [], _, _, h => h
  | v :: r, o, _, h => below_cells hb r (o + 1) _ (h.setCell (p := ⟨b, o, none⟩) hb v)
theorem Vls.there {w : World} {b n : Nat} {f : Nat → Value} (h : Vls w b n f) : w.there b 0 n := fun j hj => by
  have := h.2 j hj
  rw [Nat.zero_add]
  exact ⟨by rw [this.1]; rfl, this.2⟩
/-- 'n' of the values, from the 'o'th on. -/
def vals (g : Nat → Value) (o n : Nat) : List Value := (List.range n).map fun j => g (o + j)
theorem vals_len (g : Nat → Value) (o n : Nat) : (vals g o n).length = n := by simp [vals]
theorem vals_at (g : Nat → Value) (o n j : Nat) (h : j < n) : (vals g o n)[j]? = some (g (o + j)) := by simp [vals, h]
theorem vals_some {g : Nat → Value} {o n j : Nat} {v : Value} (h : (vals g o n)[j]? = some v) : j < n ∧ v = g (o + j) := by
  have hj : j < n := by
    have := (List.getElem?_eq_some_iff.1 h).1
    rwa [vals_len] at this
  rw [vals_at g o n j hj] at h
  exact ⟨hj, (Option.some.inj h).symm⟩
theorem Vls.range {w : World} {b N : Nat} {g : Nat → Value} (h : Vls w b N g) (o n : Nat) (hn : o + n ≤ N) : w.rangeAt b o (vals g o n) := fun j v hv => by
  obtain ⟨hj, rfl⟩ := vals_some hv
  exact (h.2 (o + j) (by omega)).1
theorem Vls.thereAt {w : World} {b N : Nat} {g : Nat → Value} (h : Vls w b N g) (o n : Nat) (hn : o + n ≤ N) : w.there b o n := fun j hj => by
  have := h.2 (o + j) (by omega)
  exact ⟨by rw [this.1]; rfl, this.2⟩
theorem Vls.boxed (w : World) (g : Nat → Value) (n : Nat) (t : TypeId) : Vls (w.alloc (.cells (vals g 0 n).toArray t)) w.heap.size n g := by
  refine ⟨by simp, fun j hj => ⟨?_, World.frozen?_alloc_at _ t _ j rfl⟩⟩
  refine range_cell (range_new w (vals g 0 n).toArray t) j ?_
  have := vals_at g 0 n j hj
  rw [Nat.zero_add] at this
  simpa using this
theorem size_setCells (b : Nat) : ∀ (vs : List Value) (o : Nat) (w : World), (w.setCells b o vs).heap.size = w.heap.size
  | [], _, _ => rfl
  | v :: r, o, w => by
    show ((w.setCell ⟨b, o, none⟩ v).setCells b (o + 1) r).heap.size = _
    rw [size_setCells b r (o + 1) _]; simp
theorem frozen_setCells (b : Nat) (p : Addr) : ∀ (vs : List Value) (o : Nat) (w : World), (w.setCells b o vs).frozen? p = w.frozen? p
  | [], _, _ => rfl
  | v :: r, o, w => by
    show ((w.setCell ⟨b, o, none⟩ v).setCells b (o + 1) r).frozen? p = _
    rw [frozen_setCells b p r (o + 1) _, World.frozen?_setCell]
theorem Vls.put {w : World} {b N : Nat} {g : Nat → Value} (h : Vls w b N g) (o n : Nat) (hn : o + n ≤ N) (g' : Nat → Value) (k : Nat → Value) (hk : ∀ j, j < N → k j = if o ≤ j ∧ j < o + n then g' (j - o) else g j) : Vls (w.setCells b o (vals g' 0 n)) b N k := by
  refine ⟨by rw [size_setCells]; exact h.1, fun j hj => ⟨?_, by rw [frozen_setCells]; exact (h.2 j hj).2⟩⟩
  rw [hk j hj]
  by_cases e : o ≤ j ∧ j < o + n
  · rw [if_pos e]
    have := World.cell?_setCells_in b (vals g' 0 n) o w (fun i hi => by rw [vals_len] at hi; rw [(h.2 (o + i) (by omega)).1]; rfl) (j - o) (by rw [vals_len]; omega)
    rw [show o + (j - o) = j by omega] at this
    rw [this]
    have h2 := vals_at g' 0 n (j - o) (by omega)
    rw [Nat.zero_add] at h2
    rw [List.getElem?_eq_getElem (by rw [vals_len]; omega)] at h2
    exact h2
  · rw [if_neg e]
    rw [World.cell?_setCells_out b (vals g' 0 n) o w ⟨b, j, none⟩ (fun _ _ => by show j < o ∨ o + (vals g' 0 n).length ≤ j; rw [vals_len]; omega)]
    exact (h.2 j hj).1
theorem Vls.far {w : World} {b N : Nat} {g : Nat → Value} (h : Vls w b N g) (b' : Nat) (hb : b' ≠ b) : ∀ (vs : List Value) (o : Nat), Vls (w.setCells b' o vs) b N g := fun vs o =>
  ⟨by rw [size_setCells]; exact h.1, fun j hj => ⟨by rw [World.cell?_setCells_out b' vs o w ⟨b, j, none⟩ (fun e _ => absurd e.symm hb)]; exact (h.2 j hj).1, by rw [frozen_setCells]; exact (h.2 j hj).2⟩⟩
theorem Ints.vls {w : World} {b n : Nat} {f : Nat → Int} (h : Ints w b n f) : Vls w b n (fun j => .int .i64 (f j)) := h
theorem Vls.ints {w : World} {b n : Nat} {f : Nat → Int} (h : Vls w b n (fun j => .int .i64 (f j))) : Ints w b n f := h
end Go.Proofs.Ytkdmmomfolhfbaa
/-
  Plain laws of this verifier's own, over any program: wide loads and stores in a region that draws its order: a load whose range an S gives is taken first; a store that alone may come up follows.
-/
namespace Go.Proofs.Ytkdmmomfolhfbaa
set_option linter.unusedVariables false
set_option linter.unusedSimpArgs false
open Go.ChangeShapes Go.WideShapes Go.RowKit

section
variable {P : Program} {ops : Array Oper} {md : Region.Mode} {Q : Exit → Act → World → Prop} {S : World → Prop}
theorem anyH_load {i : Nat} {oi : Oper} {fuel : Nat} {listed : Array Bool} {a : Act} {w : World} (hi : ops[i]? = some oi)
    (hs : Region.noSelect ops = true) (hf : Region.free md ops listed i = true) (hr : (Region.ready md ops listed).contains i = true)
    (ty : TypeId) (x : Operand) (b o : Nat) (cs : List Value) (d : TypeDesc)
    (hQ : ∀ c a w, Q (.panic c) (a.put oi.dst (.agg cs.toArray)) w → Q (.panic c) a w) (hw : Region.wanted oi (yielded ops a.tmps) = true) (ho : oi.op = .load ty x)
    (hx : a.eval x = .pointer (some ⟨b, o, none⟩)) (hSr : ∀ w, S w → w.rangeAt b o cs)
    (hu : P.underlying ty = some d) (hd : d.isRow = true) (hn : (P.info? ty).map (·.size) = some cs.length) (hS : S w)
    (h : wpAnyH P md ops Q S fuel (listed.setIfInBounds i true) (a.put oi.dst (.agg cs.toArray)) w) : wpAnyH P md ops Q S (fuel + 1) listed a w :=
  wpAnyH_take hi hs hf hr hQ (yieldsIf_load_mid hw ty x ho b o hx cs d hSr hu hd hn) hS h
theorem anyH_store {k : Nat} {oi : Oper} {fuel : Nat} {listed : Array Bool} {a : Act} {w : World} (hi : ops[k]? = some oi) (hr : Region.ready md ops listed = [k])
    (ty : TypeId) (x y : Operand) (b o : Nat) (cells : Array Value) (hw : Region.wanted oi (yielded ops a.tmps) = true) (ho : oi.op = .store ty x y)
    (hx : a.eval x = .pointer (some ⟨b, o, none⟩)) (hy : a.eval y = .agg cells) (ht : w.there b o cells.size) (hn : (P.info? ty).map (·.size) = some cells.size) (h1 : cells.all (·.oneCell') = true)
    (hS : S (w.setCells b o cells.toList)) (h : wpAnyH P md ops Q S fuel (listed.setIfInBounds k true) (a.put oi.dst undef) (w.setCells b o cells.toList)) : wpAnyH P md ops Q S (fuel + 1) listed a w := by
  refine wpAnyH_all hr (by simp) (fun i hi2 => ?_)
  have e : i = k := by simpa using hi2
  subst e
  unfold wpOp
  simp only [hi, hw, if_true]
  exact .inl (wp_store_mid ty x y ho b o cells hx hy ht hn h1 ⟨hS, h⟩)
end
theorem vals_one (f : Nat → Int) (o n : Nat) : (vals (fun j => .int .i64 (f j)) o n).toArray.all (·.oneCell') = true :=
  all_oneCell_toArray (fun v hv => by
    simp only [vals, List.mem_map] at hv
    obtain ⟨j, -, rfl⟩ := hv
    rfl)
end Go.Proofs.Ytkdmmomfolhfbaa
/-
  A hub as it lies in memory: twelve integers.
-/
namespace Go.Proofs.Ytkdmmomfolhfbaa
set_option linter.unusedVariables false
set_option linter.unusedSimpArgs false
open Go.ChangeShapes Go.WideShapes Go.RowKit

theorem twelve {j : Nat} (h : j < 12) : j = 0 ∨ j = 1 ∨ j = 2 ∨ j = 3 ∨ j = 4 ∨ j = 5 ∨ j = 6 ∨ j = 7 ∨ j = 8 ∨ j = 9 ∨ j = 10 ∨ j = 11 := by omega
theorem Ints.box (w : World) (f : Nat → Int) (t : TypeId) : Ints (w.alloc (.cells #[.int .i64 (f 0), .int .i64 (f 1), .int .i64 (f 2), .int .i64 (f 3), .int .i64 (f 4), .int .i64 (f 5), .int .i64 (f 6), .int .i64 (f 7), .int .i64 (f 8), .int .i64 (f 9), .int .i64 (f 10), .int .i64 (f 11)] t)) w.heap.size 12 f := by
  refine ⟨by simp, fun j hj => ⟨?_, World.frozen?_alloc_at _ t _ j rfl⟩⟩
  refine range_cell (range_new w #[.int .i64 (f 0), .int .i64 (f 1), .int .i64 (f 2), .int .i64 (f 3), .int .i64 (f 4), .int .i64 (f 5), .int .i64 (f 6), .int .i64 (f 7), .int .i64 (f 8), .int .i64 (f 9), .int .i64 (f 10), .int .i64 (f 11)] t) j ?_
  rcases twelve hj with rfl | rfl | rfl | rfl | rfl | rfl | rfl | rfl | rfl | rfl | rfl | rfl <;> rfl
theorem Ints.zeros (w : World) (t : TypeId) : Ints (w.alloc (.cells #[.int .i64 ((fun _ => (0 : Int)) 0), .int .i64 ((fun _ => (0 : Int)) 1), .int .i64 ((fun _ => (0 : Int)) 2), .int .i64 ((fun _ => (0 : Int)) 3), .int .i64 ((fun _ => (0 : Int)) 4), .int .i64 ((fun _ => (0 : Int)) 5), .int .i64 ((fun _ => (0 : Int)) 6), .int .i64 ((fun _ => (0 : Int)) 7), .int .i64 ((fun _ => (0 : Int)) 8), .int .i64 ((fun _ => (0 : Int)) 9), .int .i64 ((fun _ => (0 : Int)) 10), .int .i64 ((fun _ => (0 : Int)) 11)] t)) w.heap.size 12 (fun _ => 0) := Ints.box w (fun _ => 0) t
theorem Ints.row12 {w : World} {b : Nat} {f : Nat → Int} (h : Ints w b 12 f) : w.rangeAt b 0 [.int .i64 (f 0), .int .i64 (f 1), .int .i64 (f 2), .int .i64 (f 3), .int .i64 (f 4), .int .i64 (f 5), .int .i64 (f 6), .int .i64 (f 7), .int .i64 (f 8), .int .i64 (f 9), .int .i64 (f 10), .int .i64 (f 11)] := by
  intro j v hj
  have hj2 : j < 12 := by
    have := (List.getElem?_eq_some_iff.1 hj).1
    simpa using this
  have e := (h.2 j hj2).1
  rw [Nat.zero_add]
  rw [e]
  rcases twelve hj2 with rfl | rfl | rfl | rfl | rfl | rfl | rfl | rfl | rfl | rfl | rfl | rfl <;> exact hj
theorem Ints.other {w : World} {b n : Nat} {f : Nat → Int} (h : Ints w b n f) (b' j : Nat) (v : Value) (hb : b' ≠ b) : Ints (w.setCell ⟨b', j, none⟩ v) b n f :=
  ⟨by simpa using h.1, fun i hi => ⟨by rw [World.cell?_setCell_other _ _ _ _ (by intro e; injection e with e; exact hb e)]; exact (h.2 i hi).1, by rw [World.frozen?_setCell]; exact (h.2 i hi).2⟩⟩
theorem Ints.like {w : World} {b n : Nat} {f g : Nat → Int} (h : Ints w b n f) (e : ∀ j, j < n → f j = g j) : Ints w b n g :=
  ⟨h.1, fun j hj => by rw [← e j hj]; exact h.2 j hj⟩
/-- Two arrays of eight integers, compared. -/
def eq8 (f g : Nat → Int) : Bool := f 0 == g 0 && (f 1 == g 1 && (f 2 == g 2 && (f 3 == g 3 && (f 4 == g 4 && (f 5 == g 5 && (f 6 == g 6 && f 7 == g 7))))))
theorem eq_arr8 {P : Program} {t e : TypeId} {i : TypeInfo} (f g : Nat → Int) (hu : P.underlying t = some (.array 8 e)) (hi : P.info? e = some i) (he : P.underlying e = some (.int .i64)) (hc : P.cellsOf e = 1) (w : World) :
    (Op.equalIn 9999 t (.agg #[.int .i64 (f 0), .int .i64 (f 1), .int .i64 (f 2), .int .i64 (f 3), .int .i64 (f 4), .int .i64 (f 5), .int .i64 (f 6), .int .i64 (f 7)]) (.agg #[.int .i64 (g 0), .int .i64 (g 1), .int .i64 (g 2), .int .i64 (g 3), .int .i64 (g 4), .int .i64 (g 5), .int .i64 (g 6), .int .i64 (g 7)])).run P w = .ok (eq8 f g) w := by
  rw [show (9999 : Nat) = 9998 + 1 from rfl, run_equalIn_array w 9998 _ _ hu hi, hc]
  show (Op.eqItems 9998 e 1 _ _ [0, 1, 2, 3, 4, 5, 6, 7]).run P w = _
  rw [show (9998 : Nat) = 9997 + 1 from rfl]
  unfold eq8
  simp only [Op.eqItems, part, isAgg, run_underlying he, Sem.run_bind, Sem.run_pure, Result.andThen_ok]
  simp [run_equalIn_int _ _ _ _ _ _ _ he, run_underlying he]
  by_cases h0 : f 0 = g 0
  case neg => simp [h0]
  simp only [h0, if_true, beq_self_eq_true, Bool.true_and]
  by_cases h1 : f 1 = g 1
  case neg => simp [h1]
  simp only [h1, if_true, beq_self_eq_true, Bool.true_and]
  by_cases h2 : f 2 = g 2
  case neg => simp [h2]
  simp only [h2, if_true, beq_self_eq_true, Bool.true_and]
  by_cases h3 : f 3 = g 3
  case neg => simp [h3]
  simp only [h3, if_true, beq_self_eq_true, Bool.true_and]
  by_cases h4 : f 4 = g 4
  case neg => simp [h4]
  simp only [h4, if_true, beq_self_eq_true, Bool.true_and]
  by_cases h5 : f 5 = g 5
  case neg => simp [h5]
  simp only [h5, if_true, beq_self_eq_true, Bool.true_and]
  by_cases h6 : f 6 = g 6
  case neg => simp [h6]
  simp only [h6, if_true, beq_self_eq_true, Bool.true_and]
  by_cases h7 : f 7 = g 7
  case neg => simp [h7]
  simp only [h7, if_true, beq_self_eq_true, Bool.true_and]
theorem arr8_at (f : Nat → Int) {K : Nat} (h : K < 8) : (#[.int .i64 (f 0), .int .i64 (f 1), .int .i64 (f 2), .int .i64 (f 3), .int .i64 (f 4), .int .i64 (f 5), .int .i64 (f 6), .int .i64 (f 7)] : Array Value)[K]? = some (.int .i64 (f K)) := by
  have h8 : K = 0 ∨ K = 1 ∨ K = 2 ∨ K = 3 ∨ K = 4 ∨ K = 5 ∨ K = 6 ∨ K = 7 := by omega
  rcases h8 with rfl | rfl | rfl | rfl | rfl | rfl | rfl | rfl <;> rfl
/-- An array of eight integers, read at a variable place. -/
theorem arr8_index {P : Program} {t e : TypeId} {i : TypeInfo} (f : Nat → Int) (hu : P.underlying t = some (.array 8 e)) (hi : P.info? e = some i) (he : P.underlying e = some (.int .i64)) (hc : P.cellsOf e = 1) {K : Nat} (hK : K < 8) (w : World) :
    (Instr.index t (.agg #[.int .i64 (f 0), .int .i64 (f 1), .int .i64 (f 2), .int .i64 (f 3), .int .i64 (f 4), .int .i64 (f 5), .int .i64 (f 6), .int .i64 (f 7)]) (.int .i64 K)).run P w = .ok (.int .i64 (f K)) w := by
  have h1 : 0 ≤ (K : Int) ∧ (K : Int) < (8 : Nat) := by omega
  simp only [Instr.index, asIntOf, Sem.run_bind, Sem.run_pure, Result.andThen_ok, run_underlying hu, run_sizeOf w hi, if_pos h1, hc, part, isAgg, run_underlying he, Int.toNat_natCast, Nat.mul_one]
  simp [arr8_at f hK]
theorem eq8_self (f : Nat → Int) : eq8 f f = true := by simp [eq8]
end Go.Proofs.Ytkdmmomfolhfbaa
