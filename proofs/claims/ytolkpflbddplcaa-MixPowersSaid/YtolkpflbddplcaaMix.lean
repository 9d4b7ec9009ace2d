/- Mixing a 64-bit number, as plain arithmetic: its range, and that it is one to one. -/
import Derived.RowKit
import Derived.Laws.BitsAllLaws
namespace Go.Proofs.Ytolkpflbddplcaa.Mx

/-- A number that fits 64 bits without sign. -/
def U64 (n : Int) : Prop := 0 ≤ n ∧ n < 18446744073709551616

/-- An exclusive-or with the number shifted right, then a product. -/
def stepI (k : Nat) (c n : Int) : Int := IntKind.u64.wrap (bits .xor .u64 n (n / 2 ^ k) * c)
/-- The number mixed. -/
def mixI (n : Int) : Int :=
  bits .xor .u64 (stepI 27 10723151780598845931 (stepI 30 13787848793156543929 (IntKind.u64.wrap (n + 11400714819323198485))))
    (stepI 27 10723151780598845931 (stepI 30 13787848793156543929 (IntKind.u64.wrap (n + 11400714819323198485))) / 2 ^ 31)
/-- The draw of a tape. -/
def drawI (s w t a : Int) : Int :=
  mixI (bits .xor .u64 (mixI (bits .xor .u64 (mixI (bits .xor .u64 (mixI s) w)) t)) a)

theorem wrap_u64 (n : Int) : IntKind.u64.wrap n = n % 18446744073709551616 := by
  simp [IntKind.wrap, IntKind.bits, IntKind.signed]
theorem wrap_U64 (n : Int) : U64 (IntKind.u64.wrap n) := by
  rw [wrap_u64]; unfold U64; omega
theorem U64.wrap {n : Int} (h : U64 n) : IntKind.u64.wrap n = n := by
  rw [wrap_u64]; unfold U64 at h; omega
theorem bits_U64 (op : BinOp) (x y : Int) : U64 (bits op .u64 x y) := by
  unfold bits; exact wrap_U64 _
theorem mixI_U64 (n : Int) : U64 (mixI n) := bits_U64 _ _ _
theorem drawI_U64 (s w t a : Int) : U64 (drawI s w t a) := mixI_U64 _

/-- The number as 64 bits. -/
def toB (n : Int) : BitVec 64 := BitVec.ofInt 64 n
theorem toB_toNat (n : Int) : ((toB n).toNat : Int) = n % 18446744073709551616 := by
  unfold toB; rw [BitVec.toNat_ofInt]; omega
theorem toB_inj {m n : Int} (hm : U64 m) (hn : U64 n) (h : toB m = toB n) : m = n := by
  have a := toB_toNat m
  have b := toB_toNat n
  rw [h] at a
  unfold U64 at hm hn
  omega
theorem toB_nat {n : Int} (hn : U64 n) : ((toB n).toNat : Int) = n := by
  rw [toB_toNat]; unfold U64 at hn; omega
theorem toB_wrap (n : Int) : toB (IntKind.u64.wrap n) = toB n := by
  apply BitVec.eq_of_toNat_eq
  have a := toB_toNat n
  have b := toB_toNat (IntKind.u64.wrap n)
  rw [wrap_u64] at b
  rw [wrap_u64]
  omega
theorem toB_xor (x y : Int) : toB (bits .xor .u64 x y) = toB x ^^^ toB y := by
  unfold bits
  rw [toB_wrap]
  unfold toB
  rw [BitVec.ofInt_natCast, BitVec.ofNat_toNat]
  simp
  rfl
theorem toB_div {n : Int} (hn : U64 n) (k : Nat) : toB (n / 2 ^ k) = toB n >>> k := by
  apply BitVec.eq_of_toNat_eq
  rw [BitVec.toNat_ushiftRight, Nat.shiftRight_eq_div_pow]
  have a := toB_nat hn
  have hp : (0 : Int) < 2 ^ k := Int.pow_pos (by omega)
  have hq : U64 (n / 2 ^ k) := by
    unfold U64 at hn ⊢
    exact ⟨Int.ediv_nonneg hn.1 (by omega), Int.lt_of_le_of_lt (Int.ediv_le_self _ hn.1) hn.2⟩
  have b := toB_nat hq
  apply Int.natCast_inj.1
  rw [b, Int.natCast_ediv, a]
  simp
theorem toB_mul (x y : Int) : toB (x * y) = toB x * toB y := by
  unfold toB; exact BitVec.ofInt_mul x y
theorem toB_add (x y : Int) : toB (x + y) = toB x + toB y := by
  unfold toB; exact BitVec.ofInt_add x y

/-- Nothing is lost by an exclusive-or with what is shifted right. -/
theorem fold_inj {x y : BitVec 64} {k : Nat} (hk : 0 < k) (h : x ^^^ (x >>> k) = y ^^^ (y >>> k)) : x = y := by
  have hz : (x ^^^ y) = (x ^^^ y) >>> k := by
    rw [BitVec.ushiftRight_xor_distrib]
    have e : (x ^^^ (x >>> k)) ^^^ ((x >>> k) ^^^ y) = (y ^^^ (y >>> k)) ^^^ ((x >>> k) ^^^ y) := by rw [h]
    have l : (x ^^^ (x >>> k)) ^^^ ((x >>> k) ^^^ y) = x ^^^ y := by
      rw [BitVec.xor_assoc, ← BitVec.xor_assoc (x >>> k)]; simp
    have r : (y ^^^ (y >>> k)) ^^^ ((x >>> k) ^^^ y) = x >>> k ^^^ y >>> k := by
      rw [BitVec.xor_comm y, BitVec.xor_assoc, BitVec.xor_comm (x >>> k) y, ← BitVec.xor_assoc y]
      simp [BitVec.xor_comm]
    rw [l, r] at e
    exact e
  have h0 : (x ^^^ y).toNat = 0 := by
    have e := congrArg BitVec.toNat hz
    rw [BitVec.toNat_ushiftRight, Nat.shiftRight_eq_div_pow] at e
    have hp : 2 ≤ 2 ^ k := by
      calc 2 = 2 ^ 1 := rfl
        _ ≤ 2 ^ k := Nat.pow_le_pow_right (by omega) hk
    by_cases hc : (x ^^^ y).toNat = 0
    · exact hc
    · have : (x ^^^ y).toNat / 2 ^ k < (x ^^^ y).toNat := Nat.div_lt_self (by omega) hp
      omega
  have : x ^^^ y = 0#64 := BitVec.eq_of_toNat_eq (by rw [h0]; rfl)
  exact BitVec.xor_eq_zero_iff.1 this
theorem mul_inj {x y c d : BitVec 64} (hc : c * d = 1#64) (h : x * c = y * c) : x = y := by
  have e : x * c * d = y * c * d := by rw [h]
  rw [BitVec.mul_assoc, BitVec.mul_assoc, hc] at e
  simpa using e
theorem xor_inj {x y z : BitVec 64} (h : z ^^^ x = z ^^^ y) : x = y := by
  have e : z ^^^ (z ^^^ x) = z ^^^ (z ^^^ y) := by rw [h]
  rw [← BitVec.xor_assoc, ← BitVec.xor_assoc] at e
  simpa using e

theorem step_inj {k : Nat} (hk : 0 < k) {c d : Int} (hc : toB c * toB d = 1#64) {m n : Int} (hm : U64 m) (hn : U64 n) (h : stepI k c m = stepI k c n) : m = n := by
  have e := congrArg toB h
  unfold stepI at e
  rw [toB_wrap, toB_wrap, toB_mul, toB_mul, toB_xor, toB_xor, toB_div hm, toB_div hn] at e
  exact toB_inj hm hn (fold_inj hk (mul_inj hc e))
theorem step_U64 (k : Nat) (c n : Int) : U64 (stepI k c n) := wrap_U64 _
theorem fold31_inj {m n : Int} (hm : U64 m) (hn : U64 n) (h : bits .xor .u64 m (m / 2 ^ 31) = bits .xor .u64 n (n / 2 ^ 31)) : m = n := by
  have e := congrArg toB h
  rw [toB_xor, toB_xor, toB_div hm, toB_div hn] at e
  exact toB_inj hm hn (fold_inj (by decide) e)

/-- MIXING IS ONE TO ONE. -/
theorem mixI_inj {m n : Int} (hm : U64 m) (hn : U64 n) (h : mixI m = mixI n) : m = n := by
  unfold mixI at h
  have a := fold31_inj (step_U64 _ _ _) (step_U64 _ _ _) h
  have b := step_inj (by decide) (d := 3573116690164977347) (by decide) (step_U64 _ _ _) (step_U64 _ _ _) a
  have c := step_inj (by decide) (d := 10871156337175269513) (by decide) (wrap_U64 _) (wrap_U64 _) b
  have d := congrArg toB c
  rw [toB_wrap, toB_wrap, toB_add, toB_add] at d
  exact toB_inj hm hn (by simpa using d)
theorem xorI_inj {z m n : Int} (hm : U64 m) (hn : U64 n) (h : bits .xor .u64 z m = bits .xor .u64 z n) : m = n := by
  have e := congrArg toB h
  rw [toB_xor, toB_xor] at e
  exact toB_inj hm hn (xor_inj e)
theorem xorI_inj' {z m n : Int} (hm : U64 m) (hn : U64 n) (h : bits .xor .u64 m z = bits .xor .u64 n z) : m = n := by
  have e := congrArg toB h
  rw [toB_xor, toB_xor, BitVec.xor_comm, BitVec.xor_comm (toB n)] at e
  exact toB_inj hm hn (xor_inj e)

theorem draw_attempt {s w t a b : Int} (ha : U64 a) (hb : U64 b) : drawI s w t a = drawI s w t b ↔ a = b :=
  ⟨fun h => xorI_inj ha hb (mixI_inj (bits_U64 _ _ _) (bits_U64 _ _ _) h), fun h => by rw [h]⟩
theorem draw_step {s w t a b : Int} (ha : U64 t) (hb : U64 b) : drawI s w t a = drawI s w b a ↔ t = b :=
  ⟨fun h => xorI_inj ha hb (mixI_inj (bits_U64 _ _ _) (bits_U64 _ _ _) (xorI_inj' (mixI_U64 _) (mixI_U64 _) (mixI_inj (bits_U64 _ _ _) (bits_U64 _ _ _) h))), fun h => by rw [h]⟩
theorem draw_walker {s w t a b : Int} (ha : U64 w) (hb : U64 b) : drawI s w t a = drawI s b t a ↔ w = b :=
  ⟨fun h => xorI_inj ha hb (mixI_inj (bits_U64 _ _ _) (bits_U64 _ _ _) (xorI_inj' (mixI_U64 _) (mixI_U64 _) (mixI_inj (bits_U64 _ _ _) (bits_U64 _ _ _) (xorI_inj' (mixI_U64 _) (mixI_U64 _) (mixI_inj (bits_U64 _ _ _) (bits_U64 _ _ _) h))))), fun h => by rw [h]⟩
theorem draw_seed {s w t a b : Int} (ha : U64 s) (hb : U64 b) : drawI s w t a = drawI b w t a ↔ s = b :=
  ⟨fun h => mixI_inj ha hb (xorI_inj' (mixI_U64 _) (mixI_U64 _) (mixI_inj (bits_U64 _ _ _) (bits_U64 _ _ _) (xorI_inj' (mixI_U64 _) (mixI_U64 _) (mixI_inj (bits_U64 _ _ _) (bits_U64 _ _ _) (xorI_inj' (mixI_U64 _) (mixI_U64 _) (mixI_inj (bits_U64 _ _ _) (bits_U64 _ _ _) h)))))), fun h => by rw [h]⟩

theorem wrap_tdiv {n : Int} (hn : U64 n) (k : Nat) : IntKind.u64.wrap (n.tdiv (2 ^ k)) = n / 2 ^ k := by
  unfold U64 at hn
  have hp : (0 : Int) < 2 ^ k := Int.pow_pos (by omega)
  rw [Int.tdiv_eq_ediv_of_nonneg hn.1]
  exact U64.wrap ⟨Int.ediv_nonneg hn.1 (by omega), Int.lt_of_le_of_lt (Int.ediv_le_self _ hn.1) hn.2⟩
/-- The same number, by division cut toward zero. -/
theorem mixI_tdiv (n : Int) :
    bits .xor .u64
      (IntKind.u64.wrap (bits .xor .u64 (IntKind.u64.wrap (bits .xor .u64 (IntKind.u64.wrap (n + 11400714819323198485)) (IntKind.u64.wrap ((IntKind.u64.wrap (n + 11400714819323198485)).tdiv 1073741824)) * 13787848793156543929))
        (IntKind.u64.wrap ((IntKind.u64.wrap (bits .xor .u64 (IntKind.u64.wrap (n + 11400714819323198485)) (IntKind.u64.wrap ((IntKind.u64.wrap (n + 11400714819323198485)).tdiv 1073741824)) * 13787848793156543929)).tdiv 134217728)) * 10723151780598845931))
      (IntKind.u64.wrap ((IntKind.u64.wrap (bits .xor .u64 (IntKind.u64.wrap (bits .xor .u64 (IntKind.u64.wrap (n + 11400714819323198485)) (IntKind.u64.wrap ((IntKind.u64.wrap (n + 11400714819323198485)).tdiv 1073741824)) * 13787848793156543929))
        (IntKind.u64.wrap ((IntKind.u64.wrap (bits .xor .u64 (IntKind.u64.wrap (n + 11400714819323198485)) (IntKind.u64.wrap ((IntKind.u64.wrap (n + 11400714819323198485)).tdiv 1073741824)) * 13787848793156543929)).tdiv 134217728)) * 10723151780598845931)).tdiv 2147483648)) = mixI n := by
  have e30 : ∀ x, U64 x → IntKind.u64.wrap (x.tdiv 1073741824) = x / 2 ^ 30 := fun x h => wrap_tdiv h 30
  have e27 : ∀ x, U64 x → IntKind.u64.wrap (x.tdiv 134217728) = x / 2 ^ 27 := fun x h => wrap_tdiv h 27
  have e31 : ∀ x, U64 x → IntKind.u64.wrap (x.tdiv 2147483648) = x / 2 ^ 31 := fun x h => wrap_tdiv h 31
  rw [e30 _ (wrap_U64 _), e27 _ (wrap_U64 _), e31 _ (wrap_U64 _)]
  rfl
/-- The same number, as the shifts are written out. -/
theorem mixI_shr (n : Int) :
    bits .xor .u64
      (IntKind.u64.wrap (bits .xor .u64 (IntKind.u64.wrap (bits .xor .u64 (IntKind.u64.wrap (n + 11400714819323198485)) (IntKind.u64.wrap (n + 11400714819323198485) / 1073741824) * 13787848793156543929))
        (IntKind.u64.wrap (bits .xor .u64 (IntKind.u64.wrap (n + 11400714819323198485)) (IntKind.u64.wrap (n + 11400714819323198485) / 1073741824) * 13787848793156543929) / 134217728) * 10723151780598845931))
      (IntKind.u64.wrap (bits .xor .u64 (IntKind.u64.wrap (bits .xor .u64 (IntKind.u64.wrap (n + 11400714819323198485)) (IntKind.u64.wrap (n + 11400714819323198485) / 1073741824) * 13787848793156543929))
        (IntKind.u64.wrap (bits .xor .u64 (IntKind.u64.wrap (n + 11400714819323198485)) (IntKind.u64.wrap (n + 11400714819323198485) / 1073741824) * 13787848793156543929) / 134217728) * 10723151780598845931) / 2147483648) = mixI n := rfl
/-- The document's example. -/
theorem mix_zero : mixI 0 = 16294208416658607535 := by decide +kernel
end Go.Proofs.Ytolkpflbddplcaa.Mx
