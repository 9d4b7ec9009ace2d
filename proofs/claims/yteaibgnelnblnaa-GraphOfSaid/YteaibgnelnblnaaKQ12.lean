/- Texts put together, for a law: Crcs. -/
import Derived.RowKit
import Derived.Laws.BitsAllLaws
import Derived.Deep.WholeRow
import Derived.Deep.QuietTactic
import Derived.Lib.SliceRun
import Derived.Deep.RegionWith
import Derived.Test.YteaibgnelnblnaaKQ3
import Derived.Test.YteaibgnelnblnaaKQ2
section
/-! CRC-32 as plain arithmetic on 32 bits: linear, one to one step by step; a burst of at most 32 bits is told. -/
namespace Go.Proofs.Yteaibgnelnblnaa.Cr

abbrev Reg := BitVec 32
def poly : Reg := 3988292384#32
/-- One shift. -/
def sh (r : Reg) : Reg := (r >>> 1) ^^^ (if r.getLsbD 0 then poly else 0#32)
def shN : Nat → Reg → Reg
  | 0, r => r
  | n + 1, r => shN n (sh r)
def bit (b : Bool) : Reg := if b then 1#32 else 0#32

theorem sh_xor (a b : Reg) : sh (a ^^^ b) = sh a ^^^ sh b := by
  unfold sh
  rw [BitVec.ushiftRight_xor_distrib, BitVec.getLsbD_xor]
  generalize a >>> 1 = x
  generalize b >>> 1 = y
  cases a.getLsbD 0 <;> cases b.getLsbD 0
  · simp
  · simp [BitVec.xor_assoc]
  · simp
    rw [BitVec.xor_assoc, BitVec.xor_comm y poly, ← BitVec.xor_assoc]
  · simp
    rw [BitVec.xor_assoc, ← BitVec.xor_assoc poly, BitVec.xor_comm poly y, BitVec.xor_assoc, BitVec.xor_self]
    simp
theorem shN_xor : ∀ (n : Nat) (a b : Reg), shN n (a ^^^ b) = shN n a ^^^ shN n b
  | 0, _, _ => rfl
  | n + 1, a, b => by rw [shN, shN, shN, sh_xor, shN_xor n]
/-- The register behind so many bits of f. -/
def regF (r : Reg) (f : Nat → Bool) : Nat → Reg
  | 0 => r
  | n + 1 => sh (regF r f n ^^^ bit (f n))
/-- A word's lowest bits. -/
def low (w : Reg) : Nat → Reg
  | 0 => 0#32
  | k + 1 => low w k ^^^ (bit (w.getLsbD k) <<< k)
/-- The bits of a burst: those of w, from at on. -/
def burst (at_ : Nat) (w : Reg) (q : Nat) : Bool := decide (at_ ≤ q) && w.getLsbD (q - at_)
/-- A byte into the register. -/
def upd (r : Reg) (x : UInt8) : Reg := shN 8 (r ^^^ BitVec.ofNat 32 x.toNat)
/-- The register behind bytes, not yet inverted. -/
def crcReg (l : List UInt8) : Reg := l.foldl upd 4294967295#32
def crc (l : List UInt8) : Reg := ~~~ crcReg l
/-- Bit q of bytes. -/
def bitAt (l : List UInt8) (q : Nat) : Bool := (l.getD (q / 8) 0).toNat.testBit (q % 8)
/-- A number's four bytes, the lowest one first. -/
def four (w : Reg) : List UInt8 := [UInt8.ofNat w.toNat, UInt8.ofNat (w.toNat / 256), UInt8.ofNat (w.toNat / 65536), UInt8.ofNat (w.toNat / 16777216)]
/-- Bytes with their sum. -/
def mark (l : List UInt8) : List UInt8 := l ++ four (crc l)
end Go.Proofs.Yteaibgnelnblnaa.Cr

/-! The document's sum of bytes, bit by bit. -/
namespace Go.Proofs.Yteaibgnelnblnaa
open Go.RowKit Cr Me

theorem xor_reg (a b : Reg) : bits .xor .u32 (a.toNat : Int) (b.toNat : Int) = ((a ^^^ b).toNat : Int) := by
  rw [u32_xor_nat _ _ a.isLt b.isLt, BitVec.toNat_xor]
end Go.Proofs.Yteaibgnelnblnaa

/-! The program's sum: the effects of bytes in a table, then a step a byte. -/
namespace Go.Proofs.Yteaibgnelnblnaa
open Go.RowKit Cr Me

end Go.Proofs.Yteaibgnelnblnaa


namespace Go.Proofs.Yteaibgnelnblnaa
open Go.RowKit Cr Me

def zero256 : Array Value := Array.replicate 256 (.int .u32 0)
/-- The effect of byte i. -/
def effI (i : Nat) : Int := ((shN 8 (BitVec.ofNat 32 i)).toNat : Int)
theorem Eff.sum {t r : Nat} {f : Reg} (ht : t ≤ 128) (hp : ∃ b, t = 2 ^ b) (hr : r < t) (hf : f = shN 8 (BitVec.ofNat 32 t)) : bits .xor .u32 (effI r) (f.toNat : Int) = effI (t + r) := by
  unfold effI
  rw [xor_reg, hf, ← shN_xor]
  congr 3
  apply BitVec.eq_of_toNat_eq
  rw [BitVec.toNat_xor, BitVec.toNat_ofNat, BitVec.toNat_ofNat, BitVec.toNat_ofNat, Nat.mod_eq_of_lt (by omega), Nat.mod_eq_of_lt (by omega), Nat.mod_eq_of_lt (by omega)]
  obtain ⟨b, rfl⟩ := hp
  rw [Nat.xor_comm]
  have := Nat.two_pow_add_eq_or_of_lt hr 1
  rw [Nat.mul_one] at this
  rw [this]
  apply Nat.eq_of_testBit_eq
  intro i
  rw [Nat.testBit_xor, Nat.testBit_or, Nat.testBit_two_pow]
  by_cases h : b = i
  · subst h
    have : r.testBit b = false := Nat.testBit_lt_two_pow hr
    simp [this]
  · simp [h]
end Go.Proofs.Yteaibgnelnblnaa

/-! The program's sum of bytes in rows. -/
namespace Go.Proofs.Yteaibgnelnblnaa
open Go.RowKit Cr Me

/-- Slices in a row, at L: they read as these rows of bytes. -/
def Parts (w : World) (B : Nat) (L : Option Addr) (ls : List (List UInt8)) : Prop :=
  0 < ls.length → ∃ a, L = some a ∧ a.block < B ∧ ∀ i l, ls[i]? = some l → ∃ A m c, w.cell? (a.add i) = some (.slice A m c) ∧ l.length = m ∧ m ≤ 9223372036854775807 ∧ Rd w B A l
theorem Parts.at {w : World} {B : Nat} {L : Option Addr} {ls : List (List UInt8)} {k : Nat} (h : Parts w B L ls) (hk : k < ls.length) :
    ∃ a l A m c, L = some a ∧ ls[k]? = some l ∧ a.block < B ∧ w.cell? (a.add k) = some (.slice A m c) ∧ l.length = m ∧ m ≤ 9223372036854775807 ∧ Rd w B A l := by
  obtain ⟨a, rfl, hb, hc⟩ := h (by omega)
  obtain ⟨A, m, c, h1, h2, h3, h4⟩ := hc k _ (List.getElem?_eq_getElem hk)
  exact ⟨a, _, A, m, c, rfl, List.getElem?_eq_getElem hk, hb, h1, h2, h3, h4⟩
theorem Parts.below {w w' : World} {B : Nat} {L : Option Addr} {ls : List (List UInt8)} (h : Parts w B L ls) (hb : Below B w w') : Parts w' B L ls := fun hn => by
  obtain ⟨a, rfl, h1, hc⟩ := h hn
  refine ⟨a, rfl, h1, fun i l hl => ?_⟩
  obtain ⟨A, m, c, g1, g2, g3, g4⟩ := hc i l hl
  exact ⟨A, m, c, by rw [hb.cell (by rw [block_add]; exact h1)]; exact g1, g2, g3, g4.below hb⟩
theorem Parts.more {w : World} {B B' : Nat} {L : Option Addr} {ls : List (List UInt8)} (h : Parts w B L ls) (hB : B ≤ B') : Parts w B' L ls := fun hn => by
  obtain ⟨a, rfl, h1, hc⟩ := h hn
  refine ⟨a, rfl, by omega, fun i l hl => ?_⟩
  obtain ⟨A, m, c, g1, g2, g3, g4⟩ := hc i l hl
  exact ⟨A, m, c, g1, g2, g3, g4.more hB⟩
/-- The table of effects stands in block g. -/
def Tab (w : World) (g : Nat) : Prop := ∀ i, i < 256 → w.cell? ⟨g, i, none⟩ = some (.int .u32 (effI i))
end Go.Proofs.Yteaibgnelnblnaa

/-! Bytes with their sum, the program's. -/
namespace Go.Proofs.Yteaibgnelnblnaa
open Go.RowKit Cr Me

end Go.Proofs.Yteaibgnelnblnaa

/-! Bytes with their sum, the document's. -/
namespace Go.Proofs.Yteaibgnelnblnaa
open Go.RowKit Cr Me

end Go.Proofs.Yteaibgnelnblnaa

/-! Whether bytes fit, the document's answer. -/
namespace Go.Proofs.Yteaibgnelnblnaa
open Go.RowKit Cr Me

/-- What the document's Fits answers: the bytes and the error's number. -/
def RFitsPost (w : World) (l : List UInt8) (code : Int) (e : Ending) (w' : World) : Prop :=
  Below w.heap.size w w' ∧ ∃ A c, e = .returned (.tuple #[.slice A l.length c, .int .i64 code]) ∧ Rd w' w'.heap.size A l ∧ (0 < l.length → ∃ a, A = some a ∧ w.heap.size ≤ a.block) ∧ l.length ≤ c
end Go.Proofs.Yteaibgnelnblnaa

/-! Whether bytes fit, as plain mathematics; marks as new memory. -/
namespace Go.Proofs.Yteaibgnelnblnaa
open Go.RowKit Cr Me

/-- Whether bytes fit. -/
def fitB (l : List UInt8) : Bool := decide (4 ≤ l.length) && (Cr.mark (l.take (l.length - 4)) == l)
def fitL (l : List UInt8) : List UInt8 := if fitB l then l.take (l.length - 4) else []
def fitC (l : List UInt8) : Int := if l.length < 4 then 2 else if fitB l then 0 else 5
/-- What a call answers that tells bytes and a number. -/
def FTells (w : World) (l : List UInt8) (code : Int) (e : Ending) (w' : World) : Prop :=
  Below w.heap.size w w' ∧ ∃ X n c, e = .returned (.tuple #[.slice X n c, .int .i64 code]) ∧ l.length = n ∧ n ≤ 140737488355328 ∧ Rd w' w'.heap.size X l ∧ (0 < l.length → ∃ a, X = some a ∧ w.heap.size ≤ a.block)
end Go.Proofs.Yteaibgnelnblnaa

/-! Whether bytes fit, of any length: the document's answer. -/
namespace Go.Proofs.Yteaibgnelnblnaa
open Go.RowKit Cr Me

end Go.Proofs.Yteaibgnelnblnaa

/-! Whether bytes fit: the program's Fits. -/
namespace Go.Proofs.Yteaibgnelnblnaa
open Go.RowKit Cr Me

/-- What Fits answers of at least four bytes. -/
def FitsPost (w : World) (k : Nat) (l : List UInt8) (b : Bool) (e : Ending) (w' : World) : Prop :=
  Below w.heap.size w w' ∧ if b then ∃ v, e = .returned (.tuple #[v, .int .i64 0]) ∧ w'.ownsRow w.heap.size 5 1 v k (cellsOf (l.take k)) else e = .returned (.tuple #[.slice none 0 0, .int .i64 5])
end Go.Proofs.Yteaibgnelnblnaa

/-! Whether bytes fit, of any length: the program's answer. -/
namespace Go.Proofs.Yteaibgnelnblnaa
open Go.RowKit Cr Me

end Go.Proofs.Yteaibgnelnblnaa

/-! Whether bytes fit, the document's answer: the capacity besides. -/
namespace Go.Proofs.Yteaibgnelnblnaa
open Go.RowKit Cr Me

/-- As FTells; the capacity besides. -/
def FTellsC (w : World) (l : List UInt8) (code : Int) (e : Ending) (w' : World) : Prop :=
  Below w.heap.size w w' ∧ ∃ X n c, e = .returned (.tuple #[.slice X n c, .int .i64 code]) ∧ l.length = n ∧ n ≤ 140737488355328 ∧ Rd w' w'.heap.size X l ∧ (0 < l.length → ∃ a, X = some a ∧ w.heap.size ≤ a.block) ∧ n ≤ c
end Go.Proofs.Yteaibgnelnblnaa
end
