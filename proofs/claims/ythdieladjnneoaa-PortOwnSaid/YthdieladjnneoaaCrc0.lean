/-
  Plain arithmetic of the sums of layer 1 (no program in it): a step of the register, eight of them behind a byte, a register behind bytes, the sum.
-/
import Derived.Laws.BitsAllLaws
import Derived.Laws.IdiomStrings
import Derived.RowKit
namespace Go.Proofs.Ythdieladjnneoaa.Crc
set_option linter.unusedVariables false
set_option linter.unusedSimpArgs false

def step (r : Nat) : Nat := if r % 2 = 1 then (r / 2) ^^^ 3988292384 else r / 2
def steps : Nat → Nat → Nat
  | 0, r => r
  | k + 1, r => step (steps k r)
def add (r b : Nat) : Nat := steps 8 (r ^^^ b)
def reg (r : Nat) (l : List UInt8) : Nat := l.foldl (fun r c => add r c.toNat) r
def sum (l : List UInt8) : Nat := 4294967295 - reg 4294967295 l

theorem xor_lt {a b : Nat} (ha : a < 4294967296) (hb : b < 4294967296) : a ^^^ b < 4294967296 := Nat.xor_lt_two_pow (n := 32) ha hb
theorem step_lt {r : Nat} (h : r < 4294967296) : step r < 4294967296 := by
  unfold step
  split
  · exact xor_lt (by omega) (by decide)
  · omega
theorem steps_lt (k : Nat) {r : Nat} (h : r < 4294967296) : steps k r < 4294967296 := by
  induction k with
  | zero => exact h
  | succ k ih => exact step_lt ih
theorem add_lt {r b : Nat} (h : r < 4294967296) (hb : b < 256) : add r b < 4294967296 := steps_lt 8 (xor_lt h (by omega))
theorem reg_lt (l : List UInt8) {r : Nat} (h : r < 4294967296) : reg r l < 4294967296 := by
  induction l generalizing r with
  | nil => exact h
  | cons c l ih => exact ih (add_lt h c.toNat_lt)
theorem reg_append (r : Nat) (l m : List UInt8) : reg r (l ++ m) = reg (reg r l) m := by
  unfold reg; rw [List.foldl_append]
theorem sum_lt (l : List UInt8) : sum l < 4294967296 := by unfold sum; omega
theorem reg_snoc (r : Nat) (l : List UInt8) (c : UInt8) : reg r (l ++ [c]) = add (reg r l) c.toNat := by
  rw [reg_append]; rfl
theorem take_snoc (s : ByteArray) (k : Nat) (h : k < s.size) : s.data.toList.take (k + 1) = s.data.toList.take k ++ [s[k]] := by
  rw [List.take_succ_eq_append_getElem (by simpa using h)]; rfl
theorem reg_take (r : Nat) (s : ByteArray) (k : Nat) (h : k < s.size) : reg r (s.data.toList.take (k + 1)) = add (reg r (s.data.toList.take k)) s[k].toNat := by
  rw [take_snoc s k h, reg_snoc]
theorem take_all (s : ByteArray) (k : Nat) (h : s.size ≤ k) : s.data.toList.take k = s.data.toList :=
  List.take_of_length_le (by simpa using h)

theorem step_odd {r : Nat} (h : r % 2 = 1) : step r = (r / 2) ^^^ 3988292384 := by unfold step; rw [if_pos h]
theorem step_even {r : Nat} (h : r % 2 ≠ 1) : step r = r / 2 := by unfold step; rw [if_neg h]

theorem and_one (r : Nat) (h : r < 4294967296) : bits .and .u32 (r : Int) 1 = ((r % 2 : Nat) : Int) := by
  have := u32_and_nat r 1 h (by omega)
  rw [Nat.and_one_is_mod] at this
  exact this
theorem xor_poly (r : Nat) (h : r < 4294967296) : bits .xor .u32 ((r : Int) / 2) 3988292384 = (((r / 2) ^^^ 3988292384 : Nat) : Int) := by
  have := u32_xor_nat (r / 2) 3988292384 (by omega) (by omega)
  exact this
theorem not_nat (x : Nat) (h : x < 4294967296) : 4294967295 ^^^ x = 4294967295 - x := by
  have e : (BitVec.allOnes 32 ^^^ BitVec.ofNat 32 x) = ~~~ BitVec.ofNat 32 x := BitVec.allOnes_xor
  have e2 := congrArg BitVec.toNat e
  rw [BitVec.toNat_xor, BitVec.toNat_not, BitVec.toNat_allOnes, BitVec.toNat_ofNat, Nat.mod_eq_of_lt (by omega)] at e2
  have e3 : 2 ^ 32 - 1 = 4294967295 := by decide
  rw [e3] at e2
  exact e2
theorem not_u32 (x : Nat) (h : x < 4294967296) : bits .xor .u32 IntKind.u32.max (x : Int) = ((4294967295 - x : Nat) : Int) := by
  have := u32_xor_nat 4294967295 x (by omega) h
  rw [not_nat x h] at this
  exact this

def four (n : Nat) : List UInt8 := [UInt8.ofNat (n / 16777216), UInt8.ofNat (n / 65536 % 256), UInt8.ofNat (n / 256 % 256), UInt8.ofNat (n % 256)]
def val (a b c d : Nat) : Nat := 16777216 * a + 65536 * b + 256 * c + d

theorem conv_list {P : Program} (w : World) (src dst e : TypeId) (hs : P.underlying src = some (.slice e)) (he : P.underlying e = some (.int .u8)) (hd : P.underlying dst = some .string)
    (l : List UInt8) (xs : Array Value) (hxs : xs.toList = l.map (fun b => Value.int .u8 (b.toNat : Int))) (n c : Nat) (hn : n = l.length) :
    (convert src dst (.slice (some ⟨w.heap.size, 0, none⟩) n c)).run P (w.alloc (.cells xs e)) = .ok (.string ⟨l.toArray⟩) (w.alloc (.cells xs e)) := by
  subst hn
  refine run_convert_bytes_back _ src dst e _ _ l hs he hd ?_
  intro j hj
  have h1 : (w.alloc (.cells xs e)).cell? ((⟨w.heap.size, 0, none⟩ : Addr).add j) = xs[j]? := by
    have h2 : ((⟨w.heap.size, 0, none⟩ : Addr).add j) = ⟨w.heap.size, j, none⟩ := by
      unfold Addr.add; split <;> simp_all
    rw [h2]
    simp [World.cell?, World.alloc, -World.alloc_eq]
  rw [h1, ← Array.getElem?_toList, hxs]
  simp [hj]
theorem four_cells (n : Nat) (hn : n < 4294967296) : (#[Value.int .u8 ((n : Int) / 16777216), .int .u8 ((n : Int) / 65536 % 256), .int .u8 ((n : Int) / 256 % 256), .int .u8 ((n : Int) % 256)] : Array Value).toList = (four n).map (fun b => Value.int .u8 (b.toNat : Int)) := by
  unfold four
  simp
  omega

theorem or_hi (i a b : Nat) (h : b < 2 ^ i) : a * 2 ^ i ||| b = a * 2 ^ i + b := by
  rw [Nat.mul_comm a]; exact (Nat.two_pow_add_eq_or_of_lt h a).symm
theorem or1 {a b : Nat} (ha : a < 256) (hb : b < 256) : bits .or .u32 ((a : Int) * 16777216) ((b : Int) * 65536) = (a : Int) * 16777216 + (b : Int) * 65536 := by
  have h := u32_or_nat (a * 16777216) (b * 65536) (by omega) (by omega)
  have e := or_hi 24 a (b * 65536) (by omega)
  have e2 : a * 2 ^ 24 = a * 16777216 := by omega
  rw [e2] at e
  rw [e] at h
  simpa using h
theorem or2 {a b c : Nat} (ha : a < 256) (hb : b < 256) (hc : c < 256) : bits .or .u32 ((a : Int) * 16777216 + (b : Int) * 65536) ((c : Int) * 256) = (a : Int) * 16777216 + (b : Int) * 65536 + (c : Int) * 256 := by
  have h := u32_or_nat (a * 16777216 + b * 65536) (c * 256) (by omega) (by omega)
  have e := or_hi 16 (a * 256 + b) (c * 256) (by omega)
  have e2 : (a * 256 + b) * 2 ^ 16 = a * 16777216 + b * 65536 := by omega
  rw [e2] at e
  rw [e] at h
  simpa using h
theorem or3 {a b c d : Nat} (ha : a < 256) (hb : b < 256) (hc : c < 256) (hd : d < 256) : bits .or .u32 ((a : Int) * 16777216 + (b : Int) * 65536 + (c : Int) * 256) (d : Int) = (val a b c d : Nat) := by
  have h := u32_or_nat (a * 16777216 + b * 65536 + c * 256) d (by omega) (by omega)
  have e := or_hi 8 (a * 65536 + b * 256 + c) d (by omega)
  have e2 : (a * 65536 + b * 256 + c) * 2 ^ 8 = a * 16777216 + b * 65536 + c * 256 := by omega
  rw [e2] at e
  rw [e] at h
  have e3 : val a b c d = a * 16777216 + b * 65536 + c * 256 + d := by unfold val; omega
  rw [e3]
  simpa using h
theorem wrap_in {n : Int} (h0 : 0 ≤ n) (h : n < 4294967296) : IntKind.u32.wrap n = n := by rw [IntKind.wrap_u32']; omega

def vals (l : List UInt8) : Nat := l.foldl (fun r c => 256 * r + c.toNat) 0
theorem vals_snoc (l : List UInt8) (c : UInt8) : vals (l ++ [c]) = 256 * vals l + c.toNat := by unfold vals; rw [List.foldl_append]; rfl
theorem vals_take (s : ByteArray) (k : Nat) (h : k < s.size) : vals (s.data.toList.take (k + 1)) = 256 * vals (s.data.toList.take k) + s[k].toNat := by
  rw [take_snoc s k h, vals_snoc]
theorem vals_lt (s : ByteArray) (k : Nat) (h : k ≤ s.size) : vals (s.data.toList.take k) < 256 ^ k := by
  induction k with
  | zero => simp [vals]
  | succ k ih =>
    rw [vals_take s k (by omega), Nat.pow_succ]
    have := ih (by omega)
    have hb : s[k].toNat < 256 := s[k].toNat_lt
    omega
theorem vals_lt4 (s : ByteArray) (k : Nat) (h : k < s.size) (h4 : k < 4) : vals (s.data.toList.take k) < 16777216 := by
  have h1 := vals_lt s k (by omega)
  have h2 : 256 ^ k ≤ 256 ^ 3 := Nat.pow_le_pow_right (by omega) (by omega)
  omega
theorem vals_four (s : ByteArray) (h : s.size = 4) : vals (s.data.toList.take 4) = val s[0].toNat s[1].toNat s[2].toNat s[3].toNat := by
  rw [vals_take s 3 (by omega), vals_take s 2 (by omega), vals_take s 1 (by omega), vals_take s 0 (by omega)]
  simp [vals, val]
  omega

theorem size4 {s : ByteArray} (hn : ((s.size : Int) != 4) = false) : s.size = 4 := by
  have h : (s.size : Int) = 4 := by simpa using hn
  omega
theorem vals_four' (s : ByteArray) (hn : ((s.size : Int) != 4) = false) : vals (s.data.toList.take 4) = val (s[0]'(by have := size4 hn; omega)).toNat (s[1]'(by have := size4 hn; omega)).toNat (s[2]'(by have := size4 hn; omega)).toNat (s[3]'(by have := size4 hn; omega)).toNat :=
  vals_four s (size4 hn)
theorem val_of_four {n : Nat} (h : n < 4294967296) : val (UInt8.ofNat (n / 16777216)).toNat (UInt8.ofNat (n / 65536 % 256)).toNat (UInt8.ofNat (n / 256 % 256)).toNat (UInt8.ofNat (n % 256)).toNat = n := by
  unfold val
  simp
  omega
theorem sum_example : sum [49, 50, 51, 52, 53, 54, 55, 56, 57] = 3421780262 := by decide +kernel

theorem sum_join (s t : ByteArray) : sum (s ++ t).data.toList = 4294967295 - reg (reg 4294967295 s.data.toList) t.data.toList := by
  unfold sum
  rw [← reg_append]
  have e : (s ++ t).data.toList = s.data.toList ++ t.data.toList := by simp
  rw [e]
end Go.Proofs.Ythdieladjnneoaa.Crc
