import Derived.Test.YtamgpfhljbaaiaaRows
import Derived.Test.YtamgpfhljbaaiaaCrcC
import Derived.Test.YtamgpfhljbaaiaaCrcM
import Derived.Test.YtamgpfhljbaaiaaKit
import Derived.WalkKit
import Derived.WalkLawsBesides
import Derived.WalkSpells
import Derived.Outline
import Derived.Lib.Hide
import Derived.Lib.ConvBytes
import Derived.Lib.SmallJoins
import Derived.Deep.QuietTactic
import Derived.BigQuiet
namespace Go.Proofs.Ytamgpfhljbaaiaa
set_option linter.unusedVariables false
open Go.ChangeShapes Go.WideShapes Go.RowKit

/-- Block 'b' holds the bytes 'f 0', .., 'f (n - 1)', and they may be written. -/
def Buf (w : World) (b n : Nat) (f : Nat → Nat) : Prop := ∀ j, j < n → w.cell? ⟨b, j, none⟩ = some (.int .u8 (f j : Nat)) ∧ w.frozen? ⟨b, j, none⟩ = false
theorem Buf.set {w : World} {b n : Nat} {f : Nat → Nat} (h : Buf w b n f) (j0 x : Nat) (hj0 : j0 < n) (g : Nat → Nat) (hg : ∀ j, g j = if j = j0 then x else f j) :
    Buf (w.setCell ⟨b, j0, none⟩ (.int .u8 (x : Nat))) b n g := by
  intro j hj
  obtain ⟨h1, h2⟩ := h j hj
  obtain ⟨h3, h4⟩ := h j0 hj0
  refine ⟨?_, ?_⟩
  · rw [hg]
    by_cases e : j = j0
    · subst e
      rw [if_pos rfl]
      exact World.cell?_setCell_same _ _ _ h3
    · rw [if_neg e, World.cell?_setCell_other _ _ _ _ (by intro h; injection h with _ h; exact e h.symm), h1]
  · rw [World.frozen?_setCell]; exact h2
theorem Buf.alloc {w : World} {b n : Nat} {f : Nat → Nat} (h : Buf w b n f) (hb : b < w.heap.size) (o : Obj) : Buf (w.alloc o) b n f := fun j hj => by
  have hk := (Below.refl w.heap.size w).alloc (Nat.le_refl _) o
  rw [hk.cell (p := ⟨b, j, none⟩) hb, hk.frozen (p := ⟨b, j, none⟩) hb]
  exact h j hj
theorem Buf.drewN {w : World} {b n : Nat} {f : Nat → Nat} (h : Buf w b n f) (k : Nat) : Buf (w.drewN k) b n f := h

theorem burst_big (s : ByteArray) (at_ bits : Nat) (h : decide ((300 : Int) < s.size) = true) (w : World) :
    Calls Try.prog 4 #[.string s, .int .u16 at_, .int .u32 bits] w fun e w' => e = .returned (.bool true) ∧ Below w.heap.size w w' := by
  go_enter Try.func4, Try.ntmps4
  go_wp2_with (go_at_call 6; refine (awake_any _).mono ?_; rintro e w' ⟨rfl, o, n, rfl⟩)
  go_ret
  exact ⟨rfl, kept_aw _ _ _⟩
theorem burst_empty (s : ByteArray) (at_ bits : Nat) (h : decide ((300 : Int) < s.size) = false) (h2 : ((s.size : Int) == 0) = true) (w : World) :
    Calls Try.prog 4 #[.string s, .int .u16 at_, .int .u32 bits] w fun e w' => e = .returned (.bool true) ∧ Below w.heap.size w w' := by
  go_enter Try.func4, Try.ntmps4
  go_wp2_with (go_at_call 6; refine (awake_any _).mono ?_; rintro e w' ⟨rfl, o, n, rfl⟩)
  go_ret
  exact ⟨rfl, kept_aw _ _ _⟩
theorem burst_none (s : ByteArray) (at_ bits : Nat) (h : decide ((300 : Int) < s.size) = false) (h2 : ((s.size : Int) == 0) = false) (h3 : ((bits : Int) == 0) = true) (w : World) :
    Calls Try.prog 4 #[.string s, .int .u16 at_, .int .u32 bits] w fun e w' => e = .returned (.bool true) ∧ Below w.heap.size w w' := by
  go_enter Try.func4, Try.ntmps4
  go_wp2_with (go_at_call 6; refine (awake_any _).mono ?_; rintro e w' ⟨rfl, o, n, rfl⟩)
  go_ret
  exact ⟨rfl, kept_aw _ _ _⟩

def Round (s : ByteArray) (fr bits : Nat) (w : World) (bt ch i k one n : Value) (wr : World) : Prop :=
  ∃ I : Nat, I ≤ 32 ∧ fr + I ≤ 8 * s.size ∧ i = .int .i64 I ∧ bt = .int .u32 (bits / 2 ^ I : Nat) ∧ ch = .bool (Crc.some_ bits I) ∧ wr.heap.size = w.heap.size + 1 ∧ Below w.heap.size w wr ∧
    Buf wr w.heap.size s.size (Crc.cur (fun j => (s.data.toList.getD j 0).toNat) fr bits I)

set_option maxHeartbeats 1000000 in
theorem burst_main (s : ByteArray) (at_ bits : Nat) (h1 : s.size ≤ 300) (h2 : 1 ≤ s.size) (hat : at_ < 65536) (hbits : bits < 4294967296) (hb0 : ((bits : Int) == 0) = false) (w : World) :
    Calls Try.prog 4 #[.string s, .int .u16 at_, .int .u32 bits] w fun e w' => e = .returned (.bool true) ∧ Below w.heap.size w w' := by
  have g1 : decide ((300 : Int) < s.size) = false := by simp; omega
  have g2 : ((s.size : Int) == 0) = false := beq_eq_false_iff_ne.2 (by omega)
  have hfr : at_ % (8 * s.size) < 8 * s.size := Nat.mod_lt _ (by omega)
  have hcv := Lib.run_convert_string_bytes (P := Try.prog) w 9 31 5 s Try.underlying9 Try.underlying31 Try.underlying5
  have hz := Lib.bytesWorld_size w 5 s
  have hbel := Joins.below_bytesWorld w.heap.size w 5 s (Nat.le_refl _)
  have hbuf : Buf (Lib.bytesWorld w 5 s) w.heap.size s.size (Crc.cur (fun j => (s.data.toList.getD j 0).toNat) (at_ % (8 * s.size)) bits 0) := by
    intro j hj
    refine ⟨Lib.bytesWorld_cell w 5 s j hj, ?_⟩
    unfold World.frozen?
    rw [Lib.bytesWorld_at_new]
    simp [Lib.bytesCells]
    omega
  generalize Lib.bytesWorld w 5 s = w1 at *
  generalize grownCap w s.size 0 5 = cap at *
  have hm : ((at_ : Int) % (8 * (s.size : Int))) = ((at_ % (8 * s.size) : Nat) : Int) := by simp
  generalize at_ % (8 * s.size) = fr at *
  have HZ := Lib.hid hz
  have HB := Lib.hid hbel
  have HF := Lib.hid hbuf
  have HM := Lib.hid hm
  clear hz hbel hbuf hm
  go_enter Try.func4, Try.ntmps4
  go_wp2_with fail
  rw [HM.out]
  clear hcv
  go_loopw [2, 9, 10, 11, 12, 13] (Round s fr bits w) (fun _ _ i _ _ _ _ => 32 - (intOf i).toNat)
  case atStart => exact ⟨0, by omega, by omega, rfl, by simp, by simp [Crc.some_, Nat.mod_one], HZ.out, HB.out, HF.out⟩
  case round =>
    obtain ⟨I, hI, hfI, rfl, rfl, rfl, hz, hbel, hbuf⟩ := hrel
    have HZ := Lib.hid hz
    have HB := Lib.hid hbel
    have HF := Lib.hid hbuf
    clear hz hbel hbuf
    have hx : bits / 2 ^ I < 4294967296 := Nat.lt_of_le_of_lt (Nat.div_le_self _ _) hbits
    by_cases hgo : I < 32 ∧ fr + I < 8 * s.size
    · obtain ⟨hlt, hlt2⟩ := hgo
      have HX1 : Hid (bits / 2 ^ (I + 1) = bits / 2 ^ I / 2) := by rw [Nat.pow_succ, Nat.div_div_eq_div_mul]; exact rfl
      by_cases hodd : bits / 2 ^ I % 2 = 1
      · have HO : Hid (bits / 2 ^ I % 2 = 1) := hodd
        have hj : (fr + I) / 8 < s.size := by omega
        obtain ⟨hc, hfz⟩ := HF.out _ hj
        have hcl := Crc.cur_lt (fun j => (s.data.toList.getD j 0).toNat) (fun j => UInt8.toNat_lt _) fr bits I ((fr + I) / 8)
        have HP : Hid (Buf (wr.setCell ⟨w.heap.size, (fr + I) / 8, none⟩ (.int .u8 (Crc.cur (fun j => (s.data.toList.getD j 0).toNat) fr bits I ((fr + I) / 8) ^^^ 2 ^ ((fr + I) % 8) : Nat))) w.heap.size s.size (Crc.cur (fun j => (s.data.toList.getD j 0).toNat) fr bits (I + 1))) :=
          HF.out.set _ _ hj _ (fun j => by
            rw [Crc.cur_succ]
            have ht : bits.testBit I = true := by rw [Nat.testBit_eq_decide_div_mod_eq]; simp [hodd]
            by_cases e : j = (fr + I) / 8
            · subst e; simp [ht]
            · simp [e])
        generalize Crc.cur (fun j => (s.data.toList.getD j 0).toNat) fr bits I ((fr + I) / 8) = v at *
        generalize hxx : bits / 2 ^ I = x at *
        have HXX := Lib.hid hxx
        clear hxx
        go_wp2
        obtain ⟨wo, rfl⟩ : ∃ wo : World, wo = wr := ⟨_, rfl⟩
        go_loop [12, 13] (fun one n => ∃ q : Nat, q ≤ (fr + I) % 8 ∧ n = .int .i64 q ∧ one = .int .u8 (2 ^ q : Nat)) (fun _ n => 8 - (intOf n).toNat)
        case atStart => exact ⟨0, by omega, rfl, rfl⟩
        case round =>
          obtain ⟨q, hq, rfl, rfl⟩ := hrel
          by_cases hlq : q < (fr + I) % 8
          · have hp := Crc.pow_small (q := q) (by omega)
            have HPS : Hid (2 ^ (q + 1) = 2 ^ q * 2) := Nat.pow_succ 2 q
            generalize 2 ^ q = y at *
            go_wp2
            go_round
            case rel => exact ⟨q + 1, by omega, by go_num, by rw [HPS.out]; go_num⟩
            case measure => simp [intOf]; omega
          · have hp := Crc.pow_byte (q := q) (by omega)
            obtain rfl : q = (fr + I) % 8 := by omega
            have hxr := u8_xor_nat v (2 ^ ((fr + I) % 8)) hcl hp
            generalize 2 ^ ((fr + I) % 8) = y at *
            go_wp2
            go_roundw
            case rel => exact ⟨I + 1, by omega, by omega, by go_num, by rw [HX1.out]; go_num, by rw [Crc.some_yes (by rw [HXX.out]; exact HO.out)], by rw [← HZ.out]; simp [World.setCell], HB.out.setCell (Nat.le_refl _) _, HP.out⟩
            case measure => simp [intOf]; omega
      · have HN : Hid (bits / 2 ^ I % 2 ≠ 1) := hodd
        generalize hxx : bits / 2 ^ I = x at *
        have HXX := Lib.hid hxx
        clear hxx
        go_wp2
        go_roundw
        case rel => exact ⟨I + 1, by omega, by omega, by go_num, by rw [HX1.out]; go_num, by rw [Crc.some_no (by rw [HXX.out]; exact HN.out)], HZ.out, HB.out, by rw [Crc.cur_no _ _ _ _ (by rw [HXX.out]; exact HN.out)]; exact HF.out⟩
        case measure => simp [intOf]; omega
    · have HS := Lib.hid (Crc.burst_curs s.data.toList fr bits I hI (by simpa using hfI))
      have hL : (Crc.curs s.data.toList fr bits I).length = s.size := by rw [Crc.curs_length]; simp
      have HC : ∀ o n, Hid ((convert 31 9 (.slice (some ⟨w.heap.size, 0, none⟩) s.size cap)).run Try.prog ((wr.alloc o).drewN n) = .ok (.string ⟨(Crc.curs s.data.toList fr bits I).toArray⟩) ((wr.alloc o).drewN n)) := by
        intro o n
        have h := run_convert_bytes_back (P := Try.prog) ((wr.alloc o).drewN n) 31 9 5 ⟨w.heap.size, 0, none⟩ cap (Crc.curs s.data.toList fr bits I) Try.underlying31 Try.underlying5 Try.underlying9 (fun j hj => by
          rw [Crc.curs_get]
          have h2 := ((HF.out.alloc (by rw [HZ.out]; omega) o).drewN n j (by omega)).1
          have h3 : (⟨w.heap.size, 0, none⟩ : Addr).add j = ⟨w.heap.size, j, none⟩ := by unfold Addr.add; split <;> simp_all
          rw [h3]
          exact h2)
        rw [hL] at h
        exact h
      have HL : Hid ((Crc.curs s.data.toList fr bits I).length = s.size) := hL
      clear hL
      have hend : I = 32 ∨ (I < 32 ∧ fr + I = 8 * s.size) := by omega
      clear hgo
      rcases hend with rfl | ⟨hlt, he⟩
      all_goals
        try have hnl : ¬ ((fr : Int) + (I : Int) < 8 * (s.size : Int)) := by omega
        generalize Crc.some_ bits _ = ch at *
        go_wp2_with fail
        refine (awake_any _).mono ?_
        rintro e w' ⟨rfl, o, n, rfl⟩
        have hcv := (HC o n).out
        clear HC
        generalize Crc.curs s.data.toList fr bits _ = L at *
        go_wp2_with fail
        refine (sum_any _ _ (by unfold maxLen; have := HL.out; simp [ByteArray.size]; omega)).mono ?_
        rintro e w' ⟨rfl, rfl⟩
        clear hcv
        go_wp2_with fail
        refine (sum_any _ _ (by unfold maxLen; omega)).mono ?_
        rintro e w' ⟨rfl, rfl⟩
        go_wp2
        go_ret
        refine ⟨ret_bool (by rw [HS.out]; simp), ?_⟩
        exact kept_drewN (HB.out.alloc (by rw [HZ.out]; omega) _) _
theorem crcBurst_walk (s : ByteArray) (hs : s.size ≤ maxLen) (a : Nat) (ha : a < 65536) (b : Nat) (hb : b < 4294967296) (w : World) :
    Calls Try.prog 4 #[.string s, .int .u16 a, .int .u32 b] w fun e w' => e = .returned (.bool true) ∧ Below w.heap.size w w' := by
  by_cases h : decide ((300 : Int) < s.size) = true
  · exact burst_big s a b h w
  · have h0 : decide ((300 : Int) < s.size) = false := by simpa using h
    by_cases h2 : ((s.size : Int) == 0) = true
    · exact burst_empty s a b h0 h2 w
    · have h2' : ((s.size : Int) == 0) = false := by simpa using h2
      by_cases h3 : ((b : Int) == 0) = true
      · exact burst_none s a b h0 h2' h3 w
      · have h3' : ((b : Int) == 0) = false := by simpa using h3
        have e1 := of_decide_eq_false h0
        have e2 := beq_eq_false_iff_ne.1 h2'
        exact burst_main s a b (by omega) (by omega) ha hb h3' w
end Go.Proofs.Ytamgpfhljbaaiaa
