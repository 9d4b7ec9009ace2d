/- CRC-32 as plain arithmetic on 32 bits: linear, one to one step by step; a burst of at most 32 bits is told. -/
import Derived.RowKit
import Derived.Laws.BitsAllLaws
namespace Go.Proofs.Ytgnghalcihoaaaa.Cr

abbrev Reg := BitVec 32
def poly : Reg := 3988292384#32
/-- One shift. -/
def sh (r : Reg) : Reg := (r >>> 1) ^^^ (if r.getLsbD 0 then poly else 0#32)
def shN : Nat → Reg → Reg
  | 0, r => r
  | n + 1, r => shN n (sh r)
def bit (b : Bool) : Reg := if b then 1#32 else 0#32

theorem sh_zero : sh 0#32 = 0#32 := by decide
theorem sh_xor (a b : Reg) : sh (a ^^^ b) = sh a ^^^ sh b := by
  unfold sh
  rw [BitVec.ushiftRight_xor_distrib, BitVec.getLsbD_xor]
  generalize a >>> 1 = x
  generalize b >>> 1 = y
  cases a.getLsbD 0 <;> cases b.getLsbD 0
  · simp
  · simp [BitVec.xor_assoc]
  · simp
    rw [BitVec.xor_assoc, BitVec.xor_comm y poly, ← BitVec.xor_assoc]
  · simp
    rw [BitVec.xor_assoc, ← BitVec.xor_assoc poly, BitVec.xor_comm poly y, BitVec.xor_assoc, BitVec.xor_self]
    simp
theorem shN_zero : ∀ n, shN n 0#32 = 0#32
  | 0 => rfl
  | n + 1 => by rw [shN, sh_zero, shN_zero n]
theorem shN_xor : ∀ (n : Nat) (a b : Reg), shN n (a ^^^ b) = shN n a ^^^ shN n b
  | 0, _, _ => rfl
  | n + 1, a, b => by rw [shN, shN, shN, sh_xor, shN_xor n]
theorem shN_succ' : ∀ (n : Nat) (a : Reg), shN (n + 1) a = sh (shN n a)
  | 0, _ => rfl
  | n + 1, a => by rw [shN, shN_succ' n, shN]
theorem shN_add (m : Nat) : ∀ (n : Nat) (a : Reg), shN (n + m) a = shN m (shN n a)
  | 0, a => by simp [shN]
  | n + 1, a => by rw [Nat.succ_add, shN, shN_add m n, shN]
/-- A shift loses nothing. -/
theorem sh_eq_zero {r : Reg} (h : sh r = 0#32) : r = 0#32 := by
  have h0 : r.getLsbD 0 = false := by
    have e := congrArg (fun x : Reg => x.getLsbD 31) h
    unfold sh at e
    by_cases hb : r.getLsbD 0 = true
    · rw [hb] at e
      simp [poly] at e
    · simpa using hb
  unfold sh at h
  rw [h0] at h
  simp at h
  apply BitVec.eq_of_getLsbD_eq
  intro i hi
  rw [BitVec.getLsbD_zero]
  cases i with
  | zero => exact h0
  | succ i =>
    have e := congrArg (fun x : Reg => x.getLsbD i) h
    simpa [BitVec.getLsbD_ushiftRight, Nat.add_comm] using e
theorem shN_eq_zero : ∀ (n : Nat) {r : Reg}, shN n r = 0#32 → r = 0#32
  | 0, _, h => h
  | n + 1, _, h => sh_eq_zero (shN_eq_zero n h)
/-- A shift of what has its lowest bit clear. -/
theorem sh_shl {x : Reg} (h : x.getLsbD 31 = false) : sh (x <<< 1) = x := by
  unfold sh
  have h0 : (x <<< 1).getLsbD 0 = false := by simp
  rw [h0]
  simp only [Bool.false_eq_true, if_false, BitVec.xor_zero]
  apply BitVec.eq_of_getLsbD_eq
  intro i hi
  rw [BitVec.getLsbD_ushiftRight, BitVec.getLsbD_shiftLeft]
  by_cases h31 : i = 31
  · subst h31; rw [h]; simp
  · have : 1 + i < 32 := by omega
    simp [this]
theorem shN_bit (b : Bool) : ∀ k, k ≤ 31 → shN k (bit b <<< k) = bit b
  | 0, _ => by simp [shN]
  | k + 1, h => by
    have e : bit b <<< (k + 1) = (bit b <<< k) <<< 1 := by rw [← BitVec.shiftLeft_add]
    have ht : (bit b <<< k).getLsbD 31 = false := by
      unfold bit
      cases b
      · simp
      · have hk : ¬ 31 - k = 0 := by omega
        simp [hk]
    rw [shN, e, sh_shl ht, shN_bit b k (by omega)]

/-- The register behind so many bits of f. -/
def regF (r : Reg) (f : Nat → Bool) : Nat → Reg
  | 0 => r
  | n + 1 => sh (regF r f n ^^^ bit (f n))
/-- A word's lowest bits. -/
def low (w : Reg) : Nat → Reg
  | 0 => 0#32
  | k + 1 => low w k ^^^ (bit (w.getLsbD k) <<< k)
theorem low_bit (w : Reg) : ∀ (k : Nat), k ≤ 32 → ∀ i, i < 32 → (low w k).getLsbD i = (decide (i < k) && w.getLsbD i)
  | 0, _, i, _ => by simp [low]
  | k + 1, hk, i, hi => by
    rw [low, BitVec.getLsbD_xor, low_bit w k (by omega) i hi, BitVec.getLsbD_shiftLeft]
    by_cases h1 : i < k
    · have : ¬ k ≤ i := by omega
      simp [h1, Nat.lt_succ_of_lt h1]
    · by_cases h2 : i = k
      · subst h2
        unfold bit
        cases w.getLsbD i <;> simp [hi]
      · have h3 : ¬ i < k + 1 := by omega
        have h4 : ¬ i - k = 0 := by omega
        unfold bit
        cases w.getLsbD k <;> simp [h1, h3, hi, BitVec.getLsbD_one, h4]
theorem low_all {w : Reg} {k : Nat} (hk : k ≤ 32) (hz : ∀ i, k ≤ i → i < 32 → w.getLsbD i = false) : low w k = w := by
  apply BitVec.eq_of_getLsbD_eq
  intro i hi
  rw [low_bit w k hk i hi]
  by_cases h : i < k
  · simp [h]
  · simp [h, hz i (by omega) hi]
/-- The bits of a word, one behind the other, are the word at once. -/
theorem regF_word (r : Reg) (f : Nat → Bool) (w : Reg) (n : Nat) : ∀ k, k ≤ 32 → (∀ i, i < k → f (n + i) = w.getLsbD i) → regF r f (n + k) = shN k (regF r f n ^^^ low w k)
  | 0, _, _ => by simp [shN, low]
  | k + 1, hk, hf => by
    rw [← Nat.add_assoc, regF, regF_word r f w n k (by omega) (fun i hi => hf i (by omega)), hf k (by omega), shN_succ', low]
    congr 1
    have e : bit (w.getLsbD k) = shN k (bit (w.getLsbD k) <<< k) := (shN_bit _ k (by omega)).symm
    conv => lhs; rw [e]
    rw [← shN_xor, BitVec.xor_assoc]
theorem regF_xor (r s : Reg) (f g : Nat → Bool) : ∀ n, regF (r ^^^ s) (fun q => f q ^^ g q) n = regF r f n ^^^ regF s g n
  | 0 => rfl
  | n + 1 => by
    simp only [regF]
    rw [regF_xor r s f g n, ← sh_xor]
    congr 1
    have e : bit (f n ^^ g n) = bit (f n) ^^^ bit (g n) := by cases f n <;> cases g n <;> rfl
    rw [e]
    simp only [BitVec.xor_assoc]
    congr 1
    rw [← BitVec.xor_assoc, BitVec.xor_comm (regF s g n), BitVec.xor_assoc]
theorem regF_congr (r : Reg) {f g : Nat → Bool} : ∀ n, (∀ i, i < n → f i = g i) → regF r f n = regF r g n
  | 0, _ => rfl
  | n + 1, h => by rw [regF, regF, regF_congr r n (fun i hi => h i (by omega)), h n (by omega)]
theorem regF_still {f : Nat → Bool} : ∀ n, (∀ i, i < n → f i = false) → regF 0#32 f n = 0#32
  | 0, _ => rfl
  | n + 1, h => by rw [regF, regF_still n (fun i hi => h i (by omega)), h n (by omega)]; exact sh_zero
theorem regF_zeros (r : Reg) {f : Nat → Bool} (n : Nat) : ∀ k, (∀ i, i < k → f (n + i) = false) → regF r f (n + k) = shN k (regF r f n)
  | 0, _ => rfl
  | k + 1, h => by
    rw [← Nat.add_assoc, regF, regF_zeros r n k (fun i hi => h i (by omega)), h k (by omega), shN_succ']
    simp [bit]
/-- The bits of a burst: those of w, from at on. -/
def burst (at_ : Nat) (w : Reg) (q : Nat) : Bool := decide (at_ ≤ q) && w.getLsbD (q - at_)
theorem regF_burst {at_ n : Nat} {w : Reg} (hw : w ≠ 0#32) (hn : at_ + 32 ≤ n) : regF 0#32 (burst at_ w) n ≠ 0#32 := by
  have e0 : regF 0#32 (burst at_ w) at_ = 0#32 := regF_still at_ (fun i hi => by
    unfold burst; have : ¬ at_ ≤ i := by omega
    simp [this])
  have e1 := regF_word 0#32 (burst at_ w) w at_ 32 (Nat.le_refl _) (fun i _ => by unfold burst; simp)
  rw [e0, low_all (Nat.le_refl _) (fun i h1 h2 => by omega)] at e1
  have e2 := regF_zeros 0#32 (f := burst at_ w) (at_ + 32) (n - (at_ + 32)) (fun i _ => by
    unfold burst
    rw [BitVec.getLsbD_of_ge _ _ (by omega)]
    simp)
  rw [show at_ + 32 + (n - (at_ + 32)) = n by omega, e1] at e2
  rw [e2]
  intro h
  have h1 := shN_eq_zero 32 (shN_eq_zero _ h)
  simp at h1
  exact hw h1

/-- A byte into the register. -/
def upd (r : Reg) (x : UInt8) : Reg := shN 8 (r ^^^ BitVec.ofNat 32 x.toNat)
/-- The register behind bytes, not yet inverted. -/
def crcReg (l : List UInt8) : Reg := l.foldl upd 4294967295#32
def crc (l : List UInt8) : Reg := ~~~ crcReg l
/-- Bit q of bytes. -/
def bitAt (l : List UInt8) (q : Nat) : Bool := (l.getD (q / 8) 0).toNat.testBit (q % 8)
theorem crcReg_snoc (l : List UInt8) (x : UInt8) : crcReg (l ++ [x]) = upd (crcReg l) x := by unfold crcReg; simp
theorem crcReg_nil : crcReg [] = 4294967295#32 := rfl
theorem byte_bit (x : UInt8) (i : Nat) : (BitVec.ofNat 32 x.toNat).getLsbD i = x.toNat.testBit i := by
  have hx : x.toNat < 256 := x.toNat_lt
  rw [BitVec.getLsbD_ofNat]
  by_cases h : i < 32
  · simp [h]
  · have : x.toNat.testBit i = false := Nat.testBit_lt_two_pow (Nat.lt_of_lt_of_le hx (by
      calc 256 = 2 ^ 8 := rfl
        _ ≤ 2 ^ i := Nat.pow_le_pow_right (by omega) (by omega)))
    simp [this]
theorem byte_high (x : UInt8) {i : Nat} (h : 8 ≤ i) : x.toNat.testBit i = false := by
  have hx : x.toNat < 256 := x.toNat_lt
  exact Nat.testBit_lt_two_pow (Nat.lt_of_lt_of_le hx (by
      calc 256 = 2 ^ 8 := rfl
        _ ≤ 2 ^ i := Nat.pow_le_pow_right (by omega) h))
theorem bitAt_front (l m : List UInt8) {q : Nat} (h : q < 8 * l.length) : bitAt (l ++ m) q = bitAt l q := by
  unfold bitAt
  have : q / 8 < l.length := by omega
  rw [List.getD_eq_getElem?_getD, List.getD_eq_getElem?_getD, List.getElem?_append_left this]
theorem bitAt_back (l m : List UInt8) (i : Nat) : bitAt (l ++ m) (8 * l.length + i) = bitAt m i := by
  unfold bitAt
  have h1 : (8 * l.length + i) / 8 = l.length + i / 8 := by omega
  have h2 : (8 * l.length + i) % 8 = i % 8 := by omega
  rw [h1, h2, List.getD_eq_getElem?_getD, List.getD_eq_getElem?_getD, List.getElem?_append_right (by omega)]
  simp
theorem crcReg_bits (l : List UInt8) : ∀ k, k ≤ l.length → regF 4294967295#32 (bitAt l) (8 * k) = crcReg (l.take k)
  | 0, _ => rfl
  | k + 1, h => by
    have e : l.take (k + 1) = l.take k ++ [l[k]] := by rw [List.take_succ_eq_append_getElem (by omega)]
    rw [e, crcReg_snoc, ← crcReg_bits l k (by omega), upd, show 8 * (k + 1) = 8 * k + 8 by omega,
      regF_word _ _ (BitVec.ofNat 32 l[k].toNat) (8 * k) 8 (by omega) (fun i hi => by
        rw [byte_bit]
        unfold bitAt
        have h1 : (8 * k + i) / 8 = k := by omega
        have h2 : (8 * k + i) % 8 = i := by omega
        rw [h1, h2, List.getD_eq_getElem?_getD, List.getElem?_eq_getElem (by omega)]
        rfl)]
    rw [low_all (by omega) (fun i h1 _ => by rw [byte_bit, byte_high _ h1])]
theorem crcReg_all (l : List UInt8) : regF 4294967295#32 (bitAt l) (8 * l.length) = crcReg l := by
  rw [crcReg_bits l l.length (Nat.le_refl _), List.take_length]

/-- A number's four bytes, the lowest one first. -/
def four (w : Reg) : List UInt8 := [UInt8.ofNat w.toNat, UInt8.ofNat (w.toNat / 256), UInt8.ofNat (w.toNat / 65536), UInt8.ofNat (w.toNat / 16777216)]
theorem four_bit (w : Reg) {i : Nat} (hi : i < 32) : bitAt (four w) i = w.getLsbD i := by
  have key : ∀ j k, k < 8 → (UInt8.ofNat (w.toNat / 2 ^ (8 * j))).toNat.testBit k = w.toNat.testBit (8 * j + k) := fun j k hk => by
    rw [UInt8.toNat_ofNat', show (2 : Nat) ^ 8 = 2 ^ 8 from rfl, Nat.testBit_mod_two_pow, Nat.testBit_div_two_pow]
    simp [hk, Nat.add_comm]
  have hw : w.getLsbD i = w.toNat.testBit i := rfl
  rw [hw]
  unfold bitAt four
  have h8 : i % 8 < 8 := Nat.mod_lt _ (by omega)
  have hq : i / 8 = 0 ∨ i / 8 = 1 ∨ i / 8 = 2 ∨ i / 8 = 3 := by omega
  rcases hq with h | h | h | h
  · have := key 0 (i % 8) h8
    rw [h]
    simpa [show 8 * 0 + i % 8 = i by omega] using this
  · have := key 1 (i % 8) h8
    rw [h]
    rw [show 8 * 1 + i % 8 = i by omega] at this
    exact this
  · have := key 2 (i % 8) h8
    rw [h]
    rw [show 8 * 2 + i % 8 = i by omega] at this
    exact this
  · have := key 3 (i % 8) h8
    rw [h]
    rw [show 8 * 3 + i % 8 = i by omega] at this
    exact this
/-- Bytes with their sum. -/
def mark (l : List UInt8) : List UInt8 := l ++ four (crc l)
theorem mark_length (l : List UInt8) : (mark l).length = l.length + 4 := by simp [mark, four]
/-- All bytes with their sum leave the same register. -/
theorem crcReg_mark (l : List UInt8) : regF 4294967295#32 (bitAt (mark l)) (8 * (mark l).length) = shN 32 4294967295#32 := by
  rw [mark_length, show 8 * (l.length + 4) = 8 * l.length + 32 by omega]
  rw [regF_word _ _ (crc l) (8 * l.length) 32 (Nat.le_refl _) (fun i hi => by
    unfold mark
    rw [bitAt_back, four_bit _ hi])]
  rw [low_all (Nat.le_refl _) (fun i h1 h2 => by omega)]
  rw [regF_congr (g := bitAt l) _ _ (fun i hi => by unfold mark; exact bitAt_front l _ hi), crcReg_all]
  unfold crc
  congr 1
  apply BitVec.eq_of_getLsbD_eq
  intro i hi
  rw [BitVec.getLsbD_xor, BitVec.getLsbD_not]
  have : (4294967295#32).getLsbD i = true := by
    have e : (4294967295#32 : Reg) = BitVec.allOnes 32 := rfl
    rw [e, BitVec.getLsbD_allOnes]
    simpa using hi
  rw [this]
  cases (crcReg l).getLsbD i <;> simp [hi]
/-- **A burst is told**: bytes with their sum, of which some bits within 32 are turned, are no bytes with their sum. -/
theorem mark_burst {l m : List UInt8} {at_ : Nat} {w : Reg} (hw : w ≠ 0#32) (hlen : m.length = (mark l).length) (hat : at_ + 32 ≤ 8 * m.length)
    (hm : ∀ q, q < 8 * m.length → bitAt m q = (bitAt (mark l) q ^^ burst at_ w q)) (b : List UInt8) : mark b ≠ m := by
  rintro rfl
  have h1 := crcReg_mark b
  rw [regF_congr (g := fun q => bitAt (mark l) q ^^ burst at_ w q) _ _ hm] at h1
  have h2 := regF_xor 4294967295#32 0#32 (bitAt (mark l)) (burst at_ w) (8 * (mark b).length)
  rw [BitVec.xor_zero, h1, hlen, crcReg_mark l] at h2
  have h3 : regF 0#32 (burst at_ w) (8 * (mark l).length) = 0#32 := by
    have := congrArg (fun x => shN 32 4294967295#32 ^^^ x) h2
    simp only [← BitVec.xor_assoc, BitVec.xor_self, BitVec.zero_xor] at this
    exact this.symm
  exact regF_burst hw (by rw [← hlen]; exact hat) h3
end Go.Proofs.Ytgnghalcihoaaaa.Cr
