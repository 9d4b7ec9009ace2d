/- Texts put together: Crc, RefSum, Sum, Eff, Add, Mark, RefMark, RefFits, FitM, FitR, Fits, FitA, FitC. -/
import Derived.RowKit
import Derived.Laws.BitsAllLaws
import Derived.Test.YtniffijjdehnaaaByts
import Derived.Deep.WholeRow
import Derived.Deep.QuietTactic
import Derived.Test.YtniffijjdehnaaaGen
import Derived.Lib.SliceRun
import Derived.Deep.RegionWith
/-! CRC-32 as plain arithmetic on 32 bits: linear, one to one step by step; a burst of at most 32 bits is told. -/
namespace Go.Proofs.Ytniffijjdehnaaa.Cr

abbrev Reg := BitVec 32
def poly : Reg := 3988292384#32
/-- One shift. -/
def sh (r : Reg) : Reg := (r >>> 1) ^^^ (if r.getLsbD 0 then poly else 0#32)
def shN : Nat → Reg → Reg
  | 0, r => r
  | n + 1, r => shN n (sh r)
def bit (b : Bool) : Reg := if b then 1#32 else 0#32

theorem sh_zero : sh 0#32 = 0#32 := by decide
theorem sh_xor (a b : Reg) : sh (a ^^^ b) = sh a ^^^ sh b := by
  unfold sh
  rw [BitVec.ushiftRight_xor_distrib, BitVec.getLsbD_xor]
  generalize a >>> 1 = x
  generalize b >>> 1 = y
  cases a.getLsbD 0 <;> cases b.getLsbD 0
  · simp
  · simp [BitVec.xor_assoc]
  · simp
    rw [BitVec.xor_assoc, BitVec.xor_comm y poly, ← BitVec.xor_assoc]
  · simp
    rw [BitVec.xor_assoc, ← BitVec.xor_assoc poly, BitVec.xor_comm poly y, BitVec.xor_assoc, BitVec.xor_self]
    simp
theorem shN_zero : ∀ n, shN n 0#32 = 0#32
  | 0 => rfl
  | n + 1 => by rw [shN, sh_zero, shN_zero n]
theorem shN_xor : ∀ (n : Nat) (a b : Reg), shN n (a ^^^ b) = shN n a ^^^ shN n b
  | 0, _, _ => rfl
  | n + 1, a, b => by rw [shN, shN, shN, sh_xor, shN_xor n]
theorem shN_succ' : ∀ (n : Nat) (a : Reg), shN (n + 1) a = sh (shN n a)
  | 0, _ => rfl
  | n + 1, a => by rw [shN, shN_succ' n, shN]
theorem shN_add (m : Nat) : ∀ (n : Nat) (a : Reg), shN (n + m) a = shN m (shN n a)
  | 0, a => by simp [shN]
  | n + 1, a => by rw [Nat.succ_add, shN, shN_add m n, shN]
/-- A shift loses nothing. -/
theorem sh_eq_zero {r : Reg} (h : sh r = 0#32) : r = 0#32 := by
  have h0 : r.getLsbD 0 = false := by
    have e := congrArg (fun x : Reg => x.getLsbD 31) h
    unfold sh at e
    by_cases hb : r.getLsbD 0 = true
    · rw [hb] at e
      simp [poly] at e
    · simpa using hb
  unfold sh at h
  rw [h0] at h
  simp at h
  apply BitVec.eq_of_getLsbD_eq
  intro i hi
  rw [BitVec.getLsbD_zero]
  cases i with
  | zero => exact h0
  | succ i =>
    have e := congrArg (fun x : Reg => x.getLsbD i) h
    simpa [BitVec.getLsbD_ushiftRight, Nat.add_comm] using e
theorem shN_eq_zero : ∀ (n : Nat) {r : Reg}, shN n r = 0#32 → r = 0#32
  | 0, _, h => h
  | n + 1, _, h => sh_eq_zero (shN_eq_zero n h)
/-- A shift of what has its lowest bit clear. -/
theorem sh_shl {x : Reg} (h : x.getLsbD 31 = false) : sh (x <<< 1) = x := by
  unfold sh
  have h0 : (x <<< 1).getLsbD 0 = false := by simp
  rw [h0]
  simp only [Bool.false_eq_true, if_false, BitVec.xor_zero]
  apply BitVec.eq_of_getLsbD_eq
  intro i hi
  rw [BitVec.getLsbD_ushiftRight, BitVec.getLsbD_shiftLeft]
  by_cases h31 : i = 31
  · subst h31; rw [h]; simp
  · have : 1 + i < 32 := by omega
    simp [this]
theorem shN_bit (b : Bool) : ∀ k, k ≤ 31 → shN k (bit b <<< k) = bit b
  | 0, _ => by simp [shN]
  | k + 1, h => by
    have e : bit b <<< (k + 1) = (bit b <<< k) <<< 1 := by rw [← BitVec.shiftLeft_add]
    have ht : (bit b <<< k).getLsbD 31 = false := by
      unfold bit
      cases b
      · simp
      · have hk : ¬ 31 - k = 0 := by omega
        simp [hk]
    rw [shN, e, sh_shl ht, shN_bit b k (by omega)]

/-- The register behind so many bits of f. -/
def regF (r : Reg) (f : Nat → Bool) : Nat → Reg
  | 0 => r
  | n + 1 => sh (regF r f n ^^^ bit (f n))
/-- A word's lowest bits. -/
def low (w : Reg) : Nat → Reg
  | 0 => 0#32
  | k + 1 => low w k ^^^ (bit (w.getLsbD k) <<< k)
theorem low_bit (w : Reg) : ∀ (k : Nat), k ≤ 32 → ∀ i, i < 32 → (low w k).getLsbD i = (decide (i < k) && w.getLsbD i)
  | 0, _, i, _ => by simp [low]
  | k + 1, hk, i, hi => by
    rw [low, BitVec.getLsbD_xor, low_bit w k (by omega) i hi, BitVec.getLsbD_shiftLeft]
    by_cases h1 : i < k
    · have : ¬ k ≤ i := by omega
      simp [h1, Nat.lt_succ_of_lt h1]
    · by_cases h2 : i = k
      · subst h2
        unfold bit
        cases w.getLsbD i <;> simp [hi]
      · have h3 : ¬ i < k + 1 := by omega
        have h4 : ¬ i - k = 0 := by omega
        unfold bit
        cases w.getLsbD k <;> simp [h1, h3, hi, BitVec.getLsbD_one, h4]
theorem low_all {w : Reg} {k : Nat} (hk : k ≤ 32) (hz : ∀ i, k ≤ i → i < 32 → w.getLsbD i = false) : low w k = w := by
  apply BitVec.eq_of_getLsbD_eq
  intro i hi
  rw [low_bit w k hk i hi]
  by_cases h : i < k
  · simp [h]
  · simp [h, hz i (by omega) hi]
/-- The bits of a word, one behind the other, are the word at once. -/
theorem regF_word (r : Reg) (f : Nat → Bool) (w : Reg) (n : Nat) : ∀ k, k ≤ 32 → (∀ i, i < k → f (n + i) = w.getLsbD i) → regF r f (n + k) = shN k (regF r f n ^^^ low w k)
  | 0, _, _ => by simp [shN, low]
  | k + 1, hk, hf => by
    rw [← Nat.add_assoc, regF, regF_word r f w n k (by omega) (fun i hi => hf i (by omega)), hf k (by omega), shN_succ', low]
    congr 1
    have e : bit (w.getLsbD k) = shN k (bit (w.getLsbD k) <<< k) := (shN_bit _ k (by omega)).symm
    conv => lhs; rw [e]
    rw [← shN_xor, BitVec.xor_assoc]
theorem regF_xor (r s : Reg) (f g : Nat → Bool) : ∀ n, regF (r ^^^ s) (fun q => f q ^^ g q) n = regF r f n ^^^ regF s g n
  | 0 => rfl
  | n + 1 => by
    simp only [regF]
    rw [regF_xor r s f g n, ← sh_xor]
    congr 1
    have e : bit (f n ^^ g n) = bit (f n) ^^^ bit (g n) := by cases f n <;> cases g n <;> rfl
    rw [e]
    simp only [BitVec.xor_assoc]
    congr 1
    rw [← BitVec.xor_assoc, BitVec.xor_comm (regF s g n), BitVec.xor_assoc]
theorem regF_congr (r : Reg) {f g : Nat → Bool} : ∀ n, (∀ i, i < n → f i = g i) → regF r f n = regF r g n
  | 0, _ => rfl
  | n + 1, h => by rw [regF, regF, regF_congr r n (fun i hi => h i (by omega)), h n (by omega)]
theorem regF_still {f : Nat → Bool} : ∀ n, (∀ i, i < n → f i = false) → regF 0#32 f n = 0#32
  | 0, _ => rfl
  | n + 1, h => by rw [regF, regF_still n (fun i hi => h i (by omega)), h n (by omega)]; exact sh_zero
theorem regF_zeros (r : Reg) {f : Nat → Bool} (n : Nat) : ∀ k, (∀ i, i < k → f (n + i) = false) → regF r f (n + k) = shN k (regF r f n)
  | 0, _ => rfl
  | k + 1, h => by
    rw [← Nat.add_assoc, regF, regF_zeros r n k (fun i hi => h i (by omega)), h k (by omega), shN_succ']
    simp [bit]
/-- The bits of a burst: those of w, from at on. -/
def burst (at_ : Nat) (w : Reg) (q : Nat) : Bool := decide (at_ ≤ q) && w.getLsbD (q - at_)
theorem regF_burst {at_ n : Nat} {w : Reg} (hw : w ≠ 0#32) (hn : at_ + 32 ≤ n) : regF 0#32 (burst at_ w) n ≠ 0#32 := by
  have e0 : regF 0#32 (burst at_ w) at_ = 0#32 := regF_still at_ (fun i hi => by
    unfold burst; have : ¬ at_ ≤ i := by omega
    simp [this])
  have e1 := regF_word 0#32 (burst at_ w) w at_ 32 (Nat.le_refl _) (fun i _ => by unfold burst; simp)
  rw [e0, low_all (Nat.le_refl _) (fun i h1 h2 => by omega)] at e1
  have e2 := regF_zeros 0#32 (f := burst at_ w) (at_ + 32) (n - (at_ + 32)) (fun i _ => by
    unfold burst
    rw [BitVec.getLsbD_of_ge _ _ (by omega)]
    simp)
  rw [show at_ + 32 + (n - (at_ + 32)) = n by omega, e1] at e2
  rw [e2]
  intro h
  have h1 := shN_eq_zero 32 (shN_eq_zero _ h)
  simp at h1
  exact hw h1

/-- A byte into the register. -/
def upd (r : Reg) (x : UInt8) : Reg := shN 8 (r ^^^ BitVec.ofNat 32 x.toNat)
/-- The register behind bytes, not yet inverted. -/
def crcReg (l : List UInt8) : Reg := l.foldl upd 4294967295#32
def crc (l : List UInt8) : Reg := ~~~ crcReg l
/-- Bit q of bytes. -/
def bitAt (l : List UInt8) (q : Nat) : Bool := (l.getD (q / 8) 0).toNat.testBit (q % 8)
theorem crcReg_snoc (l : List UInt8) (x : UInt8) : crcReg (l ++ [x]) = upd (crcReg l) x := by unfold crcReg; simp
theorem crcReg_nil : crcReg [] = 4294967295#32 := rfl
theorem byte_bit (x : UInt8) (i : Nat) : (BitVec.ofNat 32 x.toNat).getLsbD i = x.toNat.testBit i := by
  have hx : x.toNat < 256 := x.toNat_lt
  rw [BitVec.getLsbD_ofNat]
  by_cases h : i < 32
  · simp [h]
  · have : x.toNat.testBit i = false := Nat.testBit_lt_two_pow (Nat.lt_of_lt_of_le hx (by
      calc 256 = 2 ^ 8 := rfl
        _ ≤ 2 ^ i := Nat.pow_le_pow_right (by omega) (by omega)))
    simp [this]
theorem byte_high (x : UInt8) {i : Nat} (h : 8 ≤ i) : x.toNat.testBit i = false := by
  have hx : x.toNat < 256 := x.toNat_lt
  exact Nat.testBit_lt_two_pow (Nat.lt_of_lt_of_le hx (by
      calc 256 = 2 ^ 8 := rfl
        _ ≤ 2 ^ i := Nat.pow_le_pow_right (by omega) h))
theorem bitAt_front (l m : List UInt8) {q : Nat} (h : q < 8 * l.length) : bitAt (l ++ m) q = bitAt l q := by
  unfold bitAt
  have : q / 8 < l.length := by omega
  rw [List.getD_eq_getElem?_getD, List.getD_eq_getElem?_getD, List.getElem?_append_left this]
theorem bitAt_back (l m : List UInt8) (i : Nat) : bitAt (l ++ m) (8 * l.length + i) = bitAt m i := by
  unfold bitAt
  have h1 : (8 * l.length + i) / 8 = l.length + i / 8 := by omega
  have h2 : (8 * l.length + i) % 8 = i % 8 := by omega
  rw [h1, h2, List.getD_eq_getElem?_getD, List.getD_eq_getElem?_getD, List.getElem?_append_right (by omega)]
  simp
theorem crcReg_bits (l : List UInt8) : ∀ k, k ≤ l.length → regF 4294967295#32 (bitAt l) (8 * k) = crcReg (l.take k)
  | 0, _ => rfl
  | k + 1, h => by
    have e : l.take (k + 1) = l.take k ++ [l[k]] := by rw [List.take_succ_eq_append_getElem (by omega)]
    rw [e, crcReg_snoc, ← crcReg_bits l k (by omega), upd, show 8 * (k + 1) = 8 * k + 8 by omega,
      regF_word _ _ (BitVec.ofNat 32 l[k].toNat) (8 * k) 8 (by omega) (fun i hi => by
        rw [byte_bit]
        unfold bitAt
        have h1 : (8 * k + i) / 8 = k := by omega
        have h2 : (8 * k + i) % 8 = i := by omega
        rw [h1, h2, List.getD_eq_getElem?_getD, List.getElem?_eq_getElem (by omega)]
        rfl)]
    rw [low_all (by omega) (fun i h1 _ => by rw [byte_bit, byte_high _ h1])]
theorem crcReg_all (l : List UInt8) : regF 4294967295#32 (bitAt l) (8 * l.length) = crcReg l := by
  rw [crcReg_bits l l.length (Nat.le_refl _), List.take_length]

/-- A number's four bytes, the lowest one first. -/
def four (w : Reg) : List UInt8 := [UInt8.ofNat w.toNat, UInt8.ofNat (w.toNat / 256), UInt8.ofNat (w.toNat / 65536), UInt8.ofNat (w.toNat / 16777216)]
theorem four_bit (w : Reg) {i : Nat} (hi : i < 32) : bitAt (four w) i = w.getLsbD i := by
  have key : ∀ j k, k < 8 → (UInt8.ofNat (w.toNat / 2 ^ (8 * j))).toNat.testBit k = w.toNat.testBit (8 * j + k) := fun j k hk => by
    rw [UInt8.toNat_ofNat', show (2 : Nat) ^ 8 = 2 ^ 8 from rfl, Nat.testBit_mod_two_pow, Nat.testBit_div_two_pow]
    simp [hk, Nat.add_comm]
  have hw : w.getLsbD i = w.toNat.testBit i := rfl
  rw [hw]
  unfold bitAt four
  have h8 : i % 8 < 8 := Nat.mod_lt _ (by omega)
  have hq : i / 8 = 0 ∨ i / 8 = 1 ∨ i / 8 = 2 ∨ i / 8 = 3 := by omega
  rcases hq with h | h | h | h
  · have := key 0 (i % 8) h8
    rw [h]
    simpa [show 8 * 0 + i % 8 = i by omega] using this
  · have := key 1 (i % 8) h8
    rw [h]
    rw [show 8 * 1 + i % 8 = i by omega] at this
    exact this
  · have := key 2 (i % 8) h8
    rw [h]
    rw [show 8 * 2 + i % 8 = i by omega] at this
    exact this
  · have := key 3 (i % 8) h8
    rw [h]
    rw [show 8 * 3 + i % 8 = i by omega] at this
    exact this
/-- Bytes with their sum. -/
def mark (l : List UInt8) : List UInt8 := l ++ four (crc l)
theorem mark_length (l : List UInt8) : (mark l).length = l.length + 4 := by simp [mark, four]
/-- All bytes with their sum leave the same register. -/
theorem crcReg_mark (l : List UInt8) : regF 4294967295#32 (bitAt (mark l)) (8 * (mark l).length) = shN 32 4294967295#32 := by
  rw [mark_length, show 8 * (l.length + 4) = 8 * l.length + 32 by omega]
  rw [regF_word _ _ (crc l) (8 * l.length) 32 (Nat.le_refl _) (fun i hi => by
    unfold mark
    rw [bitAt_back, four_bit _ hi])]
  rw [low_all (Nat.le_refl _) (fun i h1 h2 => by omega)]
  rw [regF_congr (g := bitAt l) _ _ (fun i hi => by unfold mark; exact bitAt_front l _ hi), crcReg_all]
  unfold crc
  congr 1
  apply BitVec.eq_of_getLsbD_eq
  intro i hi
  rw [BitVec.getLsbD_xor, BitVec.getLsbD_not]
  have : (4294967295#32).getLsbD i = true := by
    have e : (4294967295#32 : Reg) = BitVec.allOnes 32 := rfl
    rw [e, BitVec.getLsbD_allOnes]
    simpa using hi
  rw [this]
  cases (crcReg l).getLsbD i <;> simp [hi]
/-- **A burst is told**: bytes with their sum, of which some bits within 32 are turned, are no bytes with their sum. -/
theorem mark_burst {l m : List UInt8} {at_ : Nat} {w : Reg} (hw : w ≠ 0#32) (hlen : m.length = (mark l).length) (hat : at_ + 32 ≤ 8 * m.length)
    (hm : ∀ q, q < 8 * m.length → bitAt m q = (bitAt (mark l) q ^^ burst at_ w q)) (b : List UInt8) : mark b ≠ m := by
  rintro rfl
  have h1 := crcReg_mark b
  rw [regF_congr (g := fun q => bitAt (mark l) q ^^ burst at_ w q) _ _ hm] at h1
  have h2 := regF_xor 4294967295#32 0#32 (bitAt (mark l)) (burst at_ w) (8 * (mark b).length)
  rw [BitVec.xor_zero, h1, hlen, crcReg_mark l] at h2
  have h3 : regF 0#32 (burst at_ w) (8 * (mark l).length) = 0#32 := by
    have := congrArg (fun x => shN 32 4294967295#32 ^^^ x) h2
    simp only [← BitVec.xor_assoc, BitVec.xor_self, BitVec.zero_xor] at this
    exact this.symm
  exact regF_burst hw (by rw [← hlen]; exact hat) h3
end Go.Proofs.Ytniffijjdehnaaa.Cr

/-! The document's sum of bytes, bit by bit. -/
namespace Go.Proofs.Ytniffijjdehnaaa
open Go.RowKit Cr Me

theorem reg_lt (r : Reg) : (0 : Int) ≤ (r.toNat : Int) ∧ (r.toNat : Int) < 4294967296 := ⟨by omega, by have := r.isLt; omega⟩
theorem xor_reg (a b : Reg) : bits .xor .u32 (a.toNat : Int) (b.toNat : Int) = ((a ^^^ b).toNat : Int) := by
  rw [u32_xor_nat _ _ a.isLt b.isLt, BitVec.toNat_xor]
theorem xor_byte (a : Reg) (x : UInt8) : bits .xor .u32 (a.toNat : Int) (x.toNat : Int) = ((a ^^^ BitVec.ofNat 32 x.toNat).toNat : Int) := by
  rw [← xor_reg, BitVec.toNat_ofNat, Nat.mod_eq_of_lt (Nat.lt_trans x.toNat_lt (by decide))]
theorem not_xor (r : Reg) : r ^^^ 4294967295#32 = ~~~r := by
  have e : (4294967295#32 : Reg) = BitVec.allOnes 32 := rfl
  rw [e, BitVec.xor_allOnes]
theorem not_reg (r : Reg) : bits .xor .u32 (r.toNat : Int) 4294967295 = ((~~~r).toNat : Int) := by
  rw [← not_xor, ← xor_reg]; rfl
theorem not_reg' (r : Reg) : bits .xor .u32 4294967295 (r.toNat : Int) = ((~~~r).toNat : Int) := by
  rw [← not_xor, BitVec.xor_comm, ← xor_reg]; rfl
theorem odd_reg (r : Reg) : r.toNat % 2 = 1 ↔ r.getLsbD 0 = true := by
  show _ ↔ r.toNat.testBit 0 = true
  rw [Nat.testBit_zero]
  simp
theorem sh_odd (r : Reg) (h : r.toNat % 2 = 1) : bits .xor .u32 ((r.toNat : Int) / 2) 3988292384 = ((sh r).toNat : Int) := by
  unfold sh
  rw [if_pos ((odd_reg r).1 h), ← xor_reg, BitVec.toNat_ushiftRight, Nat.shiftRight_eq_div_pow]
  rfl
theorem sh_even (r : Reg) (h : ¬ r.toNat % 2 = 1) : (r.toNat : Int) / 2 = ((sh r).toNat : Int) := by
  unfold sh
  rw [if_neg (fun e => h ((odd_reg r).2 e)), BitVec.xor_zero, BitVec.toNat_ushiftRight, Nat.shiftRight_eq_div_pow]
  rfl

end Go.Proofs.Ytniffijjdehnaaa

/-! The program's sum: the effects of bytes in a table, then a step a byte. -/
namespace Go.Proofs.Ytniffijjdehnaaa
open Go.RowKit Cr Me

theorem and_one (r : Reg) : bits .and .u32 (r.toNat : Int) 1 = ((r.toNat % 2 : Nat) : Int) := by
  have := u32_and_nat r.toNat 1 r.isLt (by decide)
  rw [nat_mask1] at this
  exact this
end Go.Proofs.Ytniffijjdehnaaa


namespace Go.Proofs.Ytniffijjdehnaaa
open Go.RowKit Cr Me

def zero256 : Array Value := Array.replicate 256 (.int .u32 0)
/-- The effect of byte i. -/
def effI (i : Nat) : Int := ((shN 8 (BitVec.ofNat 32 i)).toNat : Int)
theorem zero_first : zero256[0]? = some (.int .u32 (effI 0)) := by kernel_rfl
theorem Eff.sum {t r : Nat} {f : Reg} (ht : t ≤ 128) (hp : ∃ b, t = 2 ^ b) (hr : r < t) (hf : f = shN 8 (BitVec.ofNat 32 t)) : bits .xor .u32 (effI r) (f.toNat : Int) = effI (t + r) := by
  unfold effI
  rw [xor_reg, hf, ← shN_xor]
  congr 3
  apply BitVec.eq_of_toNat_eq
  rw [BitVec.toNat_xor, BitVec.toNat_ofNat, BitVec.toNat_ofNat, BitVec.toNat_ofNat, Nat.mod_eq_of_lt (by omega), Nat.mod_eq_of_lt (by omega), Nat.mod_eq_of_lt (by omega)]
  obtain ⟨b, rfl⟩ := hp
  rw [Nat.xor_comm]
  have := Nat.two_pow_add_eq_or_of_lt hr 1
  rw [Nat.mul_one] at this
  rw [this]
  apply Nat.eq_of_testBit_eq
  intro i
  rw [Nat.testBit_xor, Nat.testBit_or, Nat.testBit_two_pow]
  by_cases h : b = i
  · subst h
    have : r.testBit b = false := Nat.testBit_lt_two_pow hr
    simp [this]
  · simp [h]
theorem below_setCells {B : Nat} {a : World} (b : Nat) : ∀ (vs : List Value) (o : Nat) {w : World}, Below B a w → B ≤ b → Below B a (w.setCells b o vs)
  | [], _, _, h, _ => h
  | _ :: vs, o, _, h, hb => below_setCells b vs (o + 1) (h.setCell (p := ⟨b, o, none⟩) hb _) hb
end Go.Proofs.Ytniffijjdehnaaa

/-! The program's sum of bytes in rows. -/
namespace Go.Proofs.Ytniffijjdehnaaa
open Go.RowKit Cr Me

theorem shN_shl (x : Reg) : ∀ k, k ≤ 32 → (∀ i, 32 - k ≤ i → x.getLsbD i = false) → shN k (x <<< k) = x
  | 0, _, _ => by simp [shN]
  | k + 1, h, hx => by
    have e : x <<< (k + 1) = (x <<< k) <<< 1 := by rw [← BitVec.shiftLeft_add]
    have ht : (x <<< k).getLsbD 31 = false := by
      rw [BitVec.getLsbD_shiftLeft, hx (31 - k) (by omega)]; simp
    rw [shN, e, sh_shl ht, shN_shl x k (by omega) (fun i hi => hx i (by omega))]
theorem upd_table (s : Reg) (u : UInt8) : upd s u = (s >>> 8) ^^^ shN 8 (BitVec.ofNat 32 ((s.toNat % 256) ^^^ u.toNat)) := by
  have hu : u.toNat < 256 := u.toNat_lt
  have hq : (s.toNat % 256) ^^^ u.toNat < 2 ^ 8 := Nat.xor_lt_two_pow (Nat.mod_lt _ (by decide)) hu
  have e : s ^^^ BitVec.ofNat 32 u.toNat = ((s >>> 8) <<< 8) ^^^ BitVec.ofNat 32 ((s.toNat % 256) ^^^ u.toNat) := by
    apply BitVec.eq_of_getLsbD_eq
    intro i hi
    rw [BitVec.getLsbD_xor, BitVec.getLsbD_xor, byte_bit, BitVec.getLsbD_shiftLeft, BitVec.getLsbD_ushiftRight, BitVec.getLsbD_ofNat, Nat.testBit_xor, show (256 : Nat) = 2 ^ 8 from rfl, Nat.testBit_mod_two_pow]
    have hs : s.getLsbD i = s.toNat.testBit i := rfl
    rw [hs]
    by_cases h : i < 8
    · simp [h, hi]
    · have h8 : 8 + (i - 8) = i := by omega
      rw [byte_high u (by omega), h8, hs]
      simp [h, hi]
  unfold upd
  rw [e, shN_xor, shN_shl _ 8 (by omega) (fun i hi => by rw [BitVec.getLsbD_ushiftRight]; exact BitVec.getLsbD_of_ge _ _ (by omega))]
theorem upd_int (s : Reg) (u : UInt8) (q : Nat) (hq : q = (s.toNat % 256) ^^^ u.toNat) : bits .xor .u32 ((s.toNat : Int) / 256) (effI q) = ((upd s u).toNat : Int) := by
  rw [upd_table, ← hq, ← xor_reg]
  congr 1
  rw [BitVec.toNat_ushiftRight, Nat.shiftRight_eq_div_pow]
  rfl
theorem index_int (s : Reg) (u : UInt8) : ∃ q : Nat, q = (s.toNat % 256) ^^^ u.toNat ∧ q < 256 ∧ bits .xor .u8 ((s.toNat : Int) % 256) (u.toNat : Int) = (q : Int) := by
  have hu : u.toNat < 256 := u.toNat_lt
  have hm : s.toNat % 256 < 256 := Nat.mod_lt _ (by decide)
  refine ⟨_, rfl, Nat.xor_lt_two_pow (n := 8) hm hu, ?_⟩
  have := u8_xor_nat (s.toNat % 256) u.toNat hm hu
  rw [← this]
  rfl

/-- Slices in a row, at L: they read as these rows of bytes. -/
def Parts (w : World) (B : Nat) (L : Option Addr) (ls : List (List UInt8)) : Prop :=
  0 < ls.length → ∃ a, L = some a ∧ a.block < B ∧ ∀ i l, ls[i]? = some l → ∃ A m c, w.cell? (a.add i) = some (.slice A m c) ∧ l.length = m ∧ m ≤ 9223372036854775807 ∧ Rd w B A l
theorem Parts.at {w : World} {B : Nat} {L : Option Addr} {ls : List (List UInt8)} {k : Nat} (h : Parts w B L ls) (hk : k < ls.length) :
    ∃ a l A m c, L = some a ∧ ls[k]? = some l ∧ a.block < B ∧ w.cell? (a.add k) = some (.slice A m c) ∧ l.length = m ∧ m ≤ 9223372036854775807 ∧ Rd w B A l := by
  obtain ⟨a, rfl, hb, hc⟩ := h (by omega)
  obtain ⟨A, m, c, h1, h2, h3, h4⟩ := hc k _ (List.getElem?_eq_getElem hk)
  exact ⟨a, _, A, m, c, rfl, List.getElem?_eq_getElem hk, hb, h1, h2, h3, h4⟩
theorem Parts.below {w w' : World} {B : Nat} {L : Option Addr} {ls : List (List UInt8)} (h : Parts w B L ls) (hb : Below B w w') : Parts w' B L ls := fun hn => by
  obtain ⟨a, rfl, h1, hc⟩ := h hn
  refine ⟨a, rfl, h1, fun i l hl => ?_⟩
  obtain ⟨A, m, c, g1, g2, g3, g4⟩ := hc i l hl
  exact ⟨A, m, c, by rw [hb.cell (by rw [block_add]; exact h1)]; exact g1, g2, g3, g4.below hb⟩
theorem Parts.more {w : World} {B B' : Nat} {L : Option Addr} {ls : List (List UInt8)} (h : Parts w B L ls) (hB : B ≤ B') : Parts w B' L ls := fun hn => by
  obtain ⟨a, rfl, h1, hc⟩ := h hn
  refine ⟨a, rfl, by omega, fun i l hl => ?_⟩
  obtain ⟨A, m, c, g1, g2, g3, g4⟩ := hc i l hl
  exact ⟨A, m, c, g1, g2, g3, g4.more hB⟩
theorem crcReg_append (l m : List UInt8) : crcReg (l ++ m) = m.foldl upd (crcReg l) := by unfold crcReg; rw [List.foldl_append]
theorem flatten_snoc {ls : List (List UInt8)} {k : Nat} {l : List UInt8} (h : ls[k]? = some l) : (ls.take (k + 1)).flatten = (ls.take k).flatten ++ l := by
  rw [List.take_add_one, h, List.flatten_append]; simp
theorem foldl_snoc {l : List UInt8} {k : Nat} {u : UInt8} (r : Reg) (h : l[k]? = some u) : (l.take (k + 1)).foldl upd r = upd ((l.take k).foldl upd r) u := by
  rw [take_snoc h, List.foldl_append]; rfl

/-- The table of effects stands in block g. -/
def Tab (w : World) (g : Nat) : Prop := ∀ i, i < 256 → w.cell? ⟨g, i, none⟩ = some (.int .u32 (effI i))
end Go.Proofs.Ytniffijjdehnaaa

/-! Bytes with their sum, the program's. -/
namespace Go.Proofs.Ytniffijjdehnaaa
open Go.RowKit Cr Me

theorem parts_one {w : World} {B : Nat} {A : Option Addr} {m c : Nat} {l : List UInt8} (t : TypeId) (hl : l.length = m) (hm : m ≤ 9223372036854775807) (hB : B ≤ w.heap.size) (hr : Rd w B A l) {H : Nat} (hH : w.heap.size = H) :
    Parts (w.alloc (.cells #[.slice A m c] t)) (w.alloc (.cells #[.slice A m c] t)).heap.size (some ⟨H, 0, none⟩) [l] := fun _ => by
  subst hH
  refine ⟨_, rfl, by simp, fun i l' hl' => ?_⟩
  have hi : i = 0 := by
    have := (List.getElem?_eq_some_iff.1 hl').1
    simpa using this
  subst hi
  have hll : l = l' := by simpa using hl'
  subst hll
  refine ⟨A, m, c, ?_, hl, hm, (hr.alloc hB _).more (by simp; omega)⟩
  have hh := heap_alloc_new w (.cells #[.slice A m c] t)
  have e : (⟨w.heap.size, 0, none⟩ : Addr).add 0 = ⟨w.heap.size, 0, none⟩ := by unfold Addr.add; simp
  rw [e]
  simp only [World.cell?, hh]
  rfl

theorem parts_three {w : World} {B : Nat} {A A' : Option Addr} {m c m' c' : Nat} {l l' : List UInt8} (t : TypeId) (hl : l.length = m) (hm : m ≤ 9223372036854775807) (hl' : l'.length = m') (hm' : m' ≤ 9223372036854775807) (hB : B ≤ w.heap.size) (hr : Rd w B A l) (hr' : Rd w B A' l') {H : Nat} (hH : w.heap.size = H) :
    Parts (w.alloc (.cells #[.slice A m c, .slice none 0 0, .slice A' m' c'] t)) (w.alloc (.cells #[.slice A m c, .slice none 0 0, .slice A' m' c'] t)).heap.size (some ⟨H, 0, none⟩) [l, [], l'] := fun _ => by
  subst hH
  have hh := heap_alloc_new w (.cells #[.slice A m c, .slice none 0 0, .slice A' m' c'] t)
  have e : ∀ i, (⟨w.heap.size, 0, none⟩ : Addr).add i = ⟨w.heap.size, i, none⟩ := fun i => by unfold Addr.add; split <;> simp_all
  refine ⟨_, rfl, by simp, fun i x hx => ?_⟩
  have hi : i < 3 := by
    have := (List.getElem?_eq_some_iff.1 hx).1
    simpa using this
  have h3 : i = 0 ∨ i = 1 ∨ i = 2 := by omega
  rw [e]
  rcases h3 with rfl | rfl | rfl
  · have hll : l = x := by simpa using hx
    subst hll
    exact ⟨A, m, c, by simp only [World.cell?, hh]; rfl, hl, hm, (hr.alloc hB _).more (by simp; omega)⟩
  · have hll : [] = x := by simpa using hx
    subst hll
    exact ⟨none, 0, 0, by simp only [World.cell?, hh]; rfl, rfl, by omega, Rd.empty⟩
  · have hll : l' = x := by simpa using hx
    subst hll
    exact ⟨A', m', c', by simp only [World.cell?, hh]; rfl, hl', hm', (hr'.alloc hB _).more (by simp; omega)⟩
theorem byte_of (r : Reg) (k : Nat) : ((r.toNat : Int) / (k : Int)) % 256 = ((UInt8.ofNat (r.toNat / k)).toNat : Int) := by
  rw [UInt8.toNat_ofNat']
  rfl
theorem lit_four (r : Reg) : (#[.int .u8 ((r.toNat : Int) % 256), .int .u8 ((r.toNat : Int) / 256 % 256), .int .u8 ((r.toNat : Int) / 65536 % 256), .int .u8 ((r.toNat : Int) / 16777216)] : Array Value).toList = cellsOf (four r) := by
  have h0 := byte_of r 1
  have h1 := byte_of r 256
  have h2 := byte_of r 65536
  have h3 := byte_of r 16777216
  have hr := r.isLt
  simp only [Nat.div_one] at h0
  have e0 : ((r.toNat : Int) / ((1 : Nat) : Int)) % 256 = (r.toNat : Int) % 256 := by omega
  have e3 : ((r.toNat : Int) / ((16777216 : Nat) : Int)) % 256 = (r.toNat : Int) / 16777216 := by omega
  rw [e0] at h0
  rw [e3] at h3
  simp only [cellsOf, four, List.map_cons, List.map_nil]
  rw [← h0, ← h3, ← h1, ← h2]
  rfl
end Go.Proofs.Ytniffijjdehnaaa

/-! Bytes with their sum, the document's. -/
namespace Go.Proofs.Ytniffijjdehnaaa
open Go.RowKit Cr Me

end Go.Proofs.Ytniffijjdehnaaa

/-! Whether bytes fit, the document's answer. -/
namespace Go.Proofs.Ytniffijjdehnaaa
open Go.RowKit Cr Me

/-- What the document's Fits answers: the bytes and the error's number. -/
def RFitsPost (w : World) (l : List UInt8) (code : Int) (e : Ending) (w' : World) : Prop :=
  Below w.heap.size w w' ∧ ∃ A c, e = .returned (.tuple #[.slice A l.length c, .int .i64 code]) ∧ Rd w' w'.heap.size A l ∧ (0 < l.length → ∃ a, A = some a ∧ w.heap.size ≤ a.block) ∧ l.length ≤ c
end Go.Proofs.Ytniffijjdehnaaa

/-! Whether bytes fit, as plain mathematics; marks as new memory. -/
namespace Go.Proofs.Ytniffijjdehnaaa
open Go.RowKit Cr Me

/-- Whether bytes fit. -/
def fitB (l : List UInt8) : Bool := decide (4 ≤ l.length) && (Cr.mark (l.take (l.length - 4)) == l)
def fitL (l : List UInt8) : List UInt8 := if fitB l then l.take (l.length - 4) else []
def fitC (l : List UInt8) : Int := if l.length < 4 then 2 else if fitB l then 0 else 5
theorem fitB_mark (l : List UInt8) : fitB (Cr.mark l) = true := by
  unfold fitB
  rw [mark_length]
  have e : (Cr.mark l).take (l.length + 4 - 4) = l := by unfold Cr.mark; simp
  rw [e]
  simp
theorem fitL_mark (l : List UInt8) : fitL (Cr.mark l) = l := by
  unfold fitL
  rw [fitB_mark, if_pos rfl, mark_length]
  unfold Cr.mark; simp
theorem fitC_mark (l : List UInt8) : fitC (Cr.mark l) = 0 := by
  unfold fitC
  rw [fitB_mark, if_pos rfl, mark_length, if_neg (by omega)]
/-- What a call answers that tells bytes and a number. -/
def FTells (w : World) (l : List UInt8) (code : Int) (e : Ending) (w' : World) : Prop :=
  Below w.heap.size w w' ∧ ∃ X n c, e = .returned (.tuple #[.slice X n c, .int .i64 code]) ∧ l.length = n ∧ n ≤ 140737488355328 ∧ Rd w' w'.heap.size X l ∧ (0 < l.length → ∃ a, X = some a ∧ w.heap.size ≤ a.block)
theorem fitB_of {l : List UInt8} {k : Nat} (hl : l.length = k + 4) : fitB l = (Cr.mark (l.take k) == l) := by
  unfold fitB
  rw [hl]
  simp

end Go.Proofs.Ytniffijjdehnaaa

/-! Whether bytes fit, of any length: the document's answer. -/
namespace Go.Proofs.Ytniffijjdehnaaa
open Go.RowKit Cr Me

end Go.Proofs.Ytniffijjdehnaaa

/-! Whether bytes fit: the program's Fits. -/
namespace Go.Proofs.Ytniffijjdehnaaa
open Go.RowKit Cr Me

/-- What Fits answers of at least four bytes. -/
def FitsPost (w : World) (k : Nat) (l : List UInt8) (b : Bool) (e : Ending) (w' : World) : Prop :=
  Below w.heap.size w w' ∧ if b then ∃ v, e = .returned (.tuple #[v, .int .i64 0]) ∧ w'.ownsRow w.heap.size 5 1 v k (cellsOf (l.take k)) else e = .returned (.tuple #[.slice none 0 0, .int .i64 5])
end Go.Proofs.Ytniffijjdehnaaa

/-! Whether bytes fit, of any length: the program's answer. -/
namespace Go.Proofs.Ytniffijjdehnaaa
open Go.RowKit Cr Me

end Go.Proofs.Ytniffijjdehnaaa

/-! Whether bytes fit, the document's answer: the capacity besides. -/
namespace Go.Proofs.Ytniffijjdehnaaa
open Go.RowKit Cr Me

/-- As FTells; the capacity besides. -/
def FTellsC (w : World) (l : List UInt8) (code : Int) (e : Ending) (w' : World) : Prop :=
  Below w.heap.size w w' ∧ ∃ X n c, e = .returned (.tuple #[.slice X n c, .int .i64 code]) ∧ l.length = n ∧ n ≤ 140737488355328 ∧ Rd w' w'.heap.size X l ∧ (0 < l.length → ∃ a, X = some a ∧ w.heap.size ≤ a.block) ∧ n ≤ c
end Go.Proofs.Ytniffijjdehnaaa
