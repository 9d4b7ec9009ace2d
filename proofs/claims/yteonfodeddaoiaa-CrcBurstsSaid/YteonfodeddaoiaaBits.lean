/- Bits of bytes turned, one by one: a burst. -/
import Derived.Test.YteonfodeddaoiaaCrc
namespace Go.Proofs.Yteonfodeddaoiaa.Cr

/-- A bit of bytes turned. -/
def turn (l : List UInt8) (p : Nat) : List UInt8 := l.set (p / 8) (l.getD (p / 8) 0 ^^^ UInt8.ofNat (2 ^ (p % 8)))
theorem pow_lt8 {r : Nat} (h : r < 8) : 2 ^ r < 256 := by
  calc 2 ^ r < 2 ^ 8 := Nat.pow_lt_pow_right (by omega) h
    _ = 256 := rfl
theorem turn_length (l : List UInt8) (p : Nat) : (turn l p).length = l.length := by simp [turn]
theorem turn_bit {l : List UInt8} {p : Nat} (hp : p < 8 * l.length) (q : Nat) : bitAt (turn l p) q = (bitAt l q ^^ decide (q = p)) := by
  have hr : p % 8 < 8 := Nat.mod_lt _ (by decide)
  have hk : p / 8 < l.length := by omega
  unfold bitAt turn
  rw [List.getD_eq_getElem?_getD, List.getElem?_set]
  by_cases h : p / 8 = q / 8
  · rw [if_pos h, if_pos (by omega)]
    simp only [Option.getD_some]
    rw [UInt8.toNat_xor, Nat.testBit_xor, UInt8.toNat_ofNat', Nat.mod_eq_of_lt (pow_lt8 hr), Nat.testBit_two_pow, h]
    congr 1
    have : (p % 8 = q % 8) ↔ (q = p) := by omega
    simp [this]
  · rw [if_neg h]
    have : ¬ q = p := fun e => h (by rw [e])
    simp [this, List.getD_eq_getElem?_getD]
/-- The bits of w, from p on, turned in l: the lowest i of them. -/
def flips (l : List UInt8) (p : Nat) (w : Reg) : Nat → List UInt8
  | 0 => l
  | i + 1 => if w.getLsbD i then turn (flips l p w i) (p + i) else flips l p w i
theorem flips_length (l : List UInt8) (p : Nat) (w : Reg) : ∀ i, (flips l p w i).length = l.length
  | 0 => rfl
  | i + 1 => by
    rw [flips]
    split
    · rw [turn_length, flips_length l p w i]
    · exact flips_length l p w i
theorem flips_bit {l : List UInt8} {p : Nat} (w : Reg) (hp : p + 32 ≤ 8 * l.length) : ∀ i, i ≤ 32 → ∀ q, bitAt (flips l p w i) q = (bitAt l q ^^ (decide (p ≤ q ∧ q < p + i) && w.getLsbD (q - p)))
  | 0, _, q => by
    have : ¬ (p ≤ q ∧ q < p + 0) := by omega
    rw [flips, decide_eq_false this]; simp
  | i + 1, hi, q => by
    have ih := flips_bit w hp i (by omega) q
    rw [flips]
    by_cases hb : w.getLsbD i = true
    · rw [if_pos hb, turn_bit (by rw [flips_length]; omega), ih]
      by_cases hq : q = p + i
      · subst hq
        have h2 : p ≤ p + i ∧ p + i < p + (i + 1) := by omega
        have h3 : p + i - p = i := by omega
        simp [h2, h3, hb]
      · have h1 : (p ≤ q ∧ q < p + (i + 1)) ↔ (p ≤ q ∧ q < p + i) := by omega
        simp [hq, h1]
    · rw [if_neg hb, ih]
      by_cases hq : q = p + i
      · subst hq
        have h3 : p + i - p = i := by omega
        have hb' : w.getLsbD i = false := by simpa using hb
        rw [h3, hb']
        simp
      · have h1 : (p ≤ q ∧ q < p + (i + 1)) ↔ (p ≤ q ∧ q < p + i) := by omega
        simp [h1]
/-- Bytes with their sum, of which bits within 32 are turned, are no bytes with their sum. -/
theorem flips_unfit {l : List UInt8} {p : Nat} {w : Reg} (hw : w ≠ 0#32) (hp : p + 32 ≤ 8 * (mark l).length) (b : List UInt8) : mark b ≠ flips (mark l) p w 32 :=
  mark_burst hw (flips_length _ _ _ _) (by rw [flips_length]; exact hp) (fun q _ => by
    rw [flips_bit w hp 32 (Nat.le_refl _) q]
    congr 1
    unfold burst
    by_cases h : p ≤ q
    · by_cases h2 : q < p + 32
      · simp [h, h2]
      · have : w.getLsbD (q - p) = false := BitVec.getLsbD_of_ge _ _ (by omega)
        rw [this]; simp
    · have : ¬ (p ≤ q ∧ q < p + 32) := by omega
      simp [h]) b
end Go.Proofs.Yteonfodeddaoiaa.Cr
