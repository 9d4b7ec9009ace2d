/- Texts put together: Var, Num, Fst, Rdr, Rdb, Nmo, Ref, Rdm, Ren. -/
import Derived.Test.YtoflbfkmkalgcaaGen
import Derived.Laws.BitsAllLaws
import Derived.Test.YtoflbfkmkalgcaaByts
import Derived.Maps.AppendAt
import Derived.Deep.RegionHeld
import Derived.RegionTactic
/-! Numbers as bytes, seven bits a byte: the plain mathematics. -/
namespace Go.Proofs.Ytoflbfkmkalgcaa.Va

/-- A number's bytes. -/
def enc (n : Nat) : List UInt8 := if n < 128 then [UInt8.ofNat n] else UInt8.ofNat (n % 128 + 128) :: enc (n / 128)
termination_by n
decreasing_by omega
theorem enc_small {n : Nat} (h : n < 128) : enc n = [UInt8.ofNat n] := by rw [enc, if_pos h]
theorem enc_large {n : Nat} (h : ¬ n < 128) : enc n = UInt8.ofNat (n % 128 + 128) :: enc (n / 128) := by rw [enc, if_neg h]
theorem enc_pos (n : Nat) : 0 < (enc n).length := by
  rw [enc]
  split <;> simp
theorem enc_length : ∀ (k n : Nat), n < 128 ^ (k + 1) → (enc n).length ≤ k + 1
  | 0, n, h => by rw [enc_small (by simpa using h)]; simp
  | k + 1, n, h => by
    by_cases hn : n < 128
    · rw [enc_small hn]; simp
    · rw [enc_large hn]
      have h1 : n / 128 < 128 ^ (k + 1) := Nat.div_lt_of_lt_mul (by rw [Nat.pow_succ] at h; omega)
      have := enc_length k (n / 128) h1
      simp only [List.length_cons]
      omega
theorem enc_ten {n : Nat} (h : n < 18446744073709551616) : (enc n).length ≤ 10 := enc_length 9 n (Nat.lt_trans h (by decide))

/-- What a byte at place i must not be. -/
def refuses (i : Nat) (u : UInt8) : Bool := decide (9 < i) || (decide (i = 9) && decide (1 < u.toNat % 128)) || (decide (0 < i) && decide (u.toNat = 0))
/-- The number in front: it, its bytes, or the error. -/
def pars (i acc : Nat) : List UInt8 → Nat × Nat × Int
  | [] => (0, 0, 2)
  | u :: l => if refuses i u then (0, 0, 3) else if u.toNat < 128 then (acc + u.toNat % 128 * 128 ^ i, i + 1, 0) else pars (i + 1) (acc + u.toNat % 128 * 128 ^ i) l

/-- The bytes up to k have been gone through, and told acc. -/
structure At (l : List UInt8) (k acc : Nat) : Prop where
  same : pars k acc (l.drop k) = pars 0 0 l
  low : acc < 128 ^ k
  fits : acc < 18446744073709551616
  few : k ≤ 10
theorem At.start (l : List UInt8) : At l 0 0 := ⟨rfl, by decide, by decide, by decide⟩
theorem pow_le_63 {k : Nat} (h : k ≤ 8) : 128 ^ (k + 1) ≤ 9223372036854775808 := by
  have : 128 ^ (k + 1) ≤ 128 ^ 9 := Nat.pow_le_pow_right (by decide) (by omega)
  exact Nat.le_trans this (by decide)
section
variable {l : List UInt8} {k acc : Nat} {u : UInt8}
theorem drop_of (hu : l[k]? = some u) : l.drop k = u :: l.drop (k + 1) := by
  obtain ⟨h, e⟩ := List.getElem?_eq_some_iff.1 hu
  rw [List.drop_eq_getElem_cons h, e]
theorem At.refuse (h : At l k acc) (hu : l[k]? = some u) (hr : refuses k u = true) : pars 0 0 l = (0, 0, 3) := by
  rw [← h.same, drop_of hu, pars, if_pos hr]
theorem nine_of (hr : refuses k u = false) : k ≤ 9 ∧ (k = 9 → u.toNat % 128 ≤ 1) ∧ (0 < k → 0 < u.toNat) := by
  unfold refuses at hr
  simp only [Bool.or_eq_false_iff, Bool.and_eq_false_iff, decide_eq_false_iff_not] at hr
  omega
theorem At.next (h : At l k acc) (hr : refuses k u = false) : acc + u.toNat % 128 * 128 ^ k < 128 ^ (k + 1) ∧ acc + u.toNat % 128 * 128 ^ k < 18446744073709551616 ∧ u.toNat % 128 * 128 ^ k < 18446744073709551616 := by
  obtain ⟨h9, h1, -⟩ := nine_of hr
  have hm : u.toNat % 128 < 128 := Nat.mod_lt _ (by decide)
  have hl := h.low
  have hle : u.toNat % 128 * 128 ^ k ≤ 127 * 128 ^ k := Nat.mul_le_mul_right _ (by omega)
  have h2 : acc + u.toNat % 128 * 128 ^ k < 128 ^ (k + 1) := by rw [Nat.pow_succ]; omega
  refine ⟨h2, ?_⟩
  by_cases h8 : k ≤ 8
  · have := pow_le_63 h8
    omega
  · have e : k = 9 := by omega
    subst e
    have := h1 rfl
    have hle1 : u.toNat % 128 * 128 ^ 9 ≤ 1 * 128 ^ 9 := Nat.mul_le_mul_right _ this
    have e9 : (128 : Nat) ^ 9 = 9223372036854775808 := by decide
    rw [e9] at *
    omega
theorem At.done (h : At l k acc) (hu : l[k]? = some u) (hr : refuses k u = false) (hs : u.toNat < 128) : pars 0 0 l = (acc + u.toNat % 128 * 128 ^ k, k + 1, 0) := by
  rw [← h.same, drop_of hu, pars, hr, if_neg (by decide), if_pos hs]
theorem At.step (h : At l k acc) (hu : l[k]? = some u) (hr : refuses k u = false) (hs : ¬ u.toNat < 128) : At l (k + 1) (acc + u.toNat % 128 * 128 ^ k) := by
  obtain ⟨h1, h2, -⟩ := h.next hr
  obtain ⟨h9, -, -⟩ := nine_of hr
  refine ⟨?_, h1, h2, by omega⟩
  rw [← h.same, drop_of hu, pars, hr, if_neg (by decide), if_neg hs]
theorem At.ends (h : At l k acc) (hk : l.length ≤ k) : pars 0 0 l = (0, 0, 2) := by
  rw [← h.same, List.drop_eq_nil_of_le hk, pars]
end
/-- A number, and how many bytes it has; an error has neither. -/
theorem pars_bounds : ∀ (l : List UInt8) (i acc x k : Nat) (e : Int), pars i acc l = (x, k, e) → (e = 0 ∧ i < k ∧ k ≤ i + l.length) ∨ ((e = 2 ∨ e = 3) ∧ x = 0 ∧ k = 0)
  | [], i, acc, x, k, e, h => by
    rw [pars] at h
    simp only [Prod.mk.injEq] at h
    omega
  | u :: l, i, acc, x, k, e, h => by
    rw [pars] at h
    split at h
    · simp only [Prod.mk.injEq] at h
      omega
    · split at h
      · simp only [Prod.mk.injEq] at h
        simp only [List.length_cons]
        omega
      · have := pars_bounds l (i + 1) _ x k e h
        simp only [List.length_cons]
        omega
theorem u8_ofNat {n : Nat} (h : n < 256) : (UInt8.ofNat n).toNat = n := by rw [UInt8.toNat_ofNat']; exact Nat.mod_eq_of_lt h
/-- What was put is read back. -/
theorem pars_enc (m : Nat) : ∀ (i acc : Nat) (rest : List UInt8), m * 128 ^ i < 18446744073709551616 → (0 < i → 0 < m) → pars i acc (enc m ++ rest) = (acc + m * 128 ^ i, i + (enc m).length, 0) := by
  induction m using Nat.strongRecOn with
  | _ m ih =>
    intro i acc rest hm hi
    have h9 : i ≤ 9 := by
      rcases Nat.lt_or_ge 9 i with h | h
      · have h1 : 128 ^ 10 ≤ 128 ^ i := Nat.pow_le_pow_right (by decide) h
        have h2 : 1 * 128 ^ i ≤ m * 128 ^ i := Nat.mul_le_mul_right _ (hi (by omega))
        have e : (128 : Nat) ^ 10 = 1180591620717411303424 := by decide
        omega
      · exact h
    have hn1 : i = 9 → m ≤ 1 := fun e => by
      subst e
      have e9 : (128 : Nat) ^ 9 = 9223372036854775808 := by decide
      rw [e9] at hm
      omega
    by_cases hs : m < 128
    · have hu : (UInt8.ofNat m).toNat = m := u8_ofNat (by omega)
      have hr : refuses i (UInt8.ofNat m) = false := by
        unfold refuses
        rw [hu, Nat.mod_eq_of_lt hs]
        simp only [Bool.or_eq_false_iff, Bool.and_eq_false_iff, decide_eq_false_iff_not]
        refine ⟨⟨by omega, ?_⟩, ?_⟩
        · by_cases e : i = 9
          · exact .inr (by have := hn1 e; omega)
          · exact .inl e
        · by_cases e : 0 < i
          · exact .inr (by have := hi e; omega)
          · exact .inl e
      rw [enc_small hs, List.cons_append, pars, hr, if_neg (by decide), hu, if_pos hs, Nat.mod_eq_of_lt hs]
      simp
    · have hu : (UInt8.ofNat (m % 128 + 128)).toNat = m % 128 + 128 := u8_ofNat (by omega)
      have hmod : (m % 128 + 128) % 128 = m % 128 := by omega
      have hr : refuses i (UInt8.ofNat (m % 128 + 128)) = false := by
        unfold refuses
        rw [hu, hmod]
        simp only [Bool.or_eq_false_iff, Bool.and_eq_false_iff, decide_eq_false_iff_not]
        refine ⟨⟨by omega, .inl fun e => by have := hn1 e; omega⟩, .inr (by omega)⟩
      have hd : m / 128 * 128 ^ (i + 1) + m % 128 * 128 ^ i = m * 128 ^ i := by
        rw [Nat.pow_succ, Nat.mul_comm (128 ^ i) 128, ← Nat.mul_assoc, ← Nat.add_mul]
        congr 1
        omega
      rw [enc_large hs, List.cons_append, pars, hr, if_neg (by decide), hu, hmod, if_neg (by omega), ih (m / 128) (by omega) (i + 1) _ rest (by omega) (fun _ => by omega)]
      simp only [Prod.mk.injEq, List.length_cons, and_true]
      omega
theorem pars_put {n : Nat} (h : n < 18446744073709551616) (rest : List UInt8) : pars 0 0 (enc n ++ rest) = (n, (enc n).length, 0) := by
  rw [pars_enc n 0 0 rest (by simpa using h) (by simp)]
  simp
/-- Bytes that are one number are just its bytes. -/
theorem enc_pars : ∀ (l : List UInt8) (i acc x : Nat), pars i acc l = (x, i + l.length, 0) → ∃ m, x = acc + m * 128 ^ i ∧ enc m = l ∧ (0 < i → 0 < m)
  | [], i, acc, x, h => by
    rw [pars] at h
    simp at h
  | u :: l, i, acc, x, h => by
    rw [pars] at h
    have hu := u.toNat_lt
    split at h
    · simp at h
    · rename_i hr
      obtain ⟨-, -, h0⟩ := nine_of (by simpa using hr : refuses i u = false)
      split at h
      · rename_i hs
        simp only [Prod.mk.injEq, List.length_cons] at h
        have hl : l = [] := List.eq_nil_of_length_eq_zero (by omega)
        subst hl
        refine ⟨u.toNat, ?_, ?_, h0⟩
        · rw [← h.1, Nat.mod_eq_of_lt hs]
        · rw [enc_small hs]
          congr 1
          simp
      · rename_i hs
        have e : i + (u :: l).length = i + 1 + l.length := by simp only [List.length_cons]; omega
        rw [e] at h
        obtain ⟨m, hx, he, hm⟩ := enc_pars l (i + 1) _ x h
        have hm0 := hm (by omega)
        refine ⟨m * 128 + (u.toNat - 128), ?_, ?_, fun _ => by omega⟩
        · rw [hx, Nat.pow_succ, Nat.add_mul, Nat.mul_comm (128 ^ i) 128, ← Nat.mul_assoc, show u.toNat % 128 = u.toNat - 128 by omega]
          omega
        · rw [enc_large (by omega), show (m * 128 + (u.toNat - 128)) / 128 = m by omega, show (m * 128 + (u.toNat - 128)) % 128 + 128 = u.toNat by omega, he]
          simp
theorem enc_whole {l : List UInt8} {x : Nat} (h : pars 0 0 l = (x, l.length, 0)) : enc x = l := by
  obtain ⟨m, hx, he, -⟩ := enc_pars l 0 0 x (by simpa using h)
  have : x = m := by rw [hx]; simp
  rw [this, he]
theorem pars_fits {l : List UInt8} {x k : Nat} {e : Int} (h : pars 0 0 l = (x, k, e)) : x < 18446744073709551616 := by
  have go : ∀ (j : Nat) (k0 acc : Nat), l.length - k0 ≤ j → At l k0 acc → (pars 0 0 l).1 < 18446744073709551616 := by
    intro j
    induction j with
    | zero =>
      intro k0 acc hj ha
      rw [ha.ends (by omega)]
      decide
    | succ j ih =>
      intro k0 acc hj ha
      by_cases hk : l.length ≤ k0
      · rw [ha.ends hk]; decide
      · have hu : l[k0]? = some l[k0] := List.getElem?_eq_getElem (by omega)
        cases hr : refuses k0 l[k0] with
        | true => rw [ha.refuse hu hr]; decide
        | false =>
          by_cases hs : l[k0].toNat < 128
          · rw [ha.done hu hr hs]; exact (ha.next hr).2.1
          · exact ih _ _ (by omega) (ha.step hu hr hs)
  have := go l.length 0 0 (by omega) (At.start l)
  rw [h] at this
  exact this

/-- Numbers with a sign, as such without. -/
def zig (n : Int) : Nat := if n < 0 then 2 * (-(n + 1)).toNat + 1 else 2 * n.toNat
def zag (n : Nat) : Int := if n % 2 = 1 then -((n / 2 : Nat) : Int) - 1 else ((n / 2 : Nat) : Int)
theorem zag_zig (n : Int) : zag (zig n) = n := by
  unfold zag zig
  split <;> split <;> omega
theorem zig_fits {n : Int} (h1 : -9223372036854775808 ≤ n) (h2 : n ≤ 9223372036854775807) : zig n < 18446744073709551616 := by
  unfold zig
  split <;> omega
/-- Bits beside each other. -/
theorem or_add {a x k : Nat} (ha : a < 128 ^ k) : a ||| (x * 128 ^ k) = a + x * 128 ^ k := by
  have e : (128 : Nat) ^ k = 2 ^ (7 * k) := by rw [Nat.pow_mul]
  rw [e] at ha ⊢
  rw [Nat.or_comm, Nat.mul_comm, ← Nat.two_pow_add_eq_or_of_lt ha, Nat.add_comm]
end Go.Proofs.Ytoflbfkmkalgcaa.Va

/-! Numbers put behind bytes: the program's and the document's. -/
namespace Go.Proofs.Ytoflbfkmkalgcaa
open Go.RowKit Me Va

theorem mask7 (n : Nat) (h : n < 18446744073709551616) : bits .and .u64 (n : Int) 127 = ((n % 128 : Nat) : Int) := by
  have := u64_and_nat n 127 h (by decide)
  rw [nat_mask7] at this
  exact this
theorem or128 (m : Nat) (h : m < 128) : bits .or .u8 128 (m : Int) = ((m + 128 : Nat) : Int) := by
  have h1 := u8_or_nat 128 m (by decide) (by omega)
  have h2 : 128 ||| m = m + 128 := by
    have := Nat.two_pow_add_eq_or_of_lt (i := 7) (b := m) h 1
    rw [show (2 : Nat) ^ 7 * 1 = 128 from rfl] at this
    omega
  rw [h2] at h1
  exact h1
theorem lit_one (n : Nat) (h : n < 256) : (#[.int .u8 (n : Int)] : Array Value).toList = cellsOf [UInt8.ofNat n] := by
  simp only [cellsOf, List.map_cons, List.map_nil, u8_ofNat h]
theorem lit_two (q : Nat) (h : q < 128) : (#[.int .u8 ((q : Int) + 128)] : Array Value).toList = cellsOf [UInt8.ofNat (q + 128)] := lit_one (q + 128) (by omega)
/-- What stands behind some rounds: the bytes so far, and the number that is left. -/
def PutRel (w : World) (l : List UInt8) (m n r : Nat) (v : Value) (wr : World) : Prop :=
  ∃ pre, pre ++ enc r = enc m ∧ wr.ownsRow w.heap.size 5 1 v (n + pre.length) (cellsOf (l ++ pre)) ∧ Below w.heap.size w wr
end Go.Proofs.Ytoflbfkmkalgcaa

/-! The number in front of bytes, the program's. -/
namespace Go.Proofs.Ytoflbfkmkalgcaa
open Go.RowKit Me Va

/-- Too large a byte at place k. -/
def big (k : Nat) (u : UInt8) : Bool := decide (9 < k) || (decide (k = 9) && decide (1 < u.toNat % 128))
theorem mask_u8 (u : UInt8) : bits .and .u8 (u.toNat : Int) 127 = ((u.toNat % 128 : Nat) : Int) := by
  have := u8_and_nat u.toNat 127 u.toNat_lt (by decide)
  rw [nat_mask7] at this
  exact this
theorem ret_bool {a b : Bool} (h : a = b) : Ending.returned (.bool a) = .returned (.bool b) := by rw [h]
/-- What is answered of the number in front. -/
def FirstPost (w : World) (l : List UInt8) (e : Ending) (w' : World) : Prop :=
  e = .returned (.tuple #[.int .u64 ((pars 0 0 l).1 : Int), .int .i64 ((pars 0 0 l).2.1 : Int), .int .i64 (pars 0 0 l).2.2]) ∧ w = w'
theorem first_post {w : World} {l : List UInt8} {x k : Nat} {e : Int} {x' k' e' : Int} (h : pars 0 0 l = (x, k, e)) (h1 : x' = x) (h2 : k' = k) (h3 : e' = e) :
    FirstPost w l (.returned (.tuple #[.int .u64 x', .int .i64 k', .int .i64 e'])) w := by
  refine ⟨?_, rfl⟩
  rw [h, h1, h2, h3]
theorem shl_any (m k y : Nat) (hy : y = m * 128 ^ k) (hf : y < 18446744073709551616) : IntKind.u64.wrap ((m : Int) * 2 ^ (7 * (k : Int)).toNat) = (y : Int) := by
  have e : (7 * (k : Int)).toNat = 7 * k := by omega
  have e2 : ((m : Int) * 2 ^ (7 * k)) = (y : Int) := by
    have e3 : (128 : Nat) ^ k = 2 ^ (7 * k) := by rw [Nat.pow_mul]
    rw [hy, e3]
    simp
  rw [e, e2]
  exact IntWalk.u64_in _ (by omega)
end Go.Proofs.Ytoflbfkmkalgcaa

/-! A reader in memory, and what its methods answer. -/
namespace Go.Proofs.Ytoflbfkmkalgcaa
open Go.RowKit Me Va

/-- A reader in block g: what it has left, and its error's number. -/
def Rdr (w : World) (g : Nat) (l : List UInt8) (x : Int) : Prop :=
  ∃ A n c, w.cell? ⟨g, 0, none⟩ = some (.slice A n c) ∧ w.cell? ⟨g, 1, none⟩ = some (.int .i64 x) ∧ w.frozen? ⟨g, 0, none⟩ = false ∧ w.frozen? ⟨g, 1, none⟩ = false ∧
    l.length = n ∧ n ≤ c ∧ n ≤ 70368744177664 ∧ Rd w g A l ∧ (x ≠ 0 → l = [])
section
variable {w w' : World} {g : Nat} {l : List UInt8} {x : Int}
theorem Rdr.below (h : Rdr w g l x) (hb : Below (g + 1) w w') : Rdr w' g l x := by
  obtain ⟨A, n, c, h0, h1, f0, f1, hl, hc, hn, hr, hx⟩ := h
  have e0 := hb.cell (p := ⟨g, 0, none⟩) (show g < g + 1 by omega)
  have e1 := hb.cell (p := ⟨g, 1, none⟩) (show g < g + 1 by omega)
  have e2 := hb.frozen (p := ⟨g, 0, none⟩) (show g < g + 1 by omega)
  have e3 := hb.frozen (p := ⟨g, 1, none⟩) (show g < g + 1 by omega)
  exact ⟨A, n, c, e0.trans h0, e1.trans h1, e2.trans f0, e3.trans f1, hl, hc, hn, hr.below (hb.mono (by omega)), hx⟩
/-- A reader whose cells are laid anew. -/
theorem Rdr.set {A : Option Addr} {n c : Nat} {m : List UInt8} {y : Int} (h : Rdr w g l x) (hl : m.length = n) (hc : n ≤ c) (hn : n ≤ 70368744177664) (hr : Rd w g A m) (hy : y ≠ 0 → m = []) :
    Rdr ((w.setCell ⟨g, 0, none⟩ (.slice A n c)).setCell ⟨g, 1, none⟩ (.int .i64 y)) g m y := by
  obtain ⟨A0, n0, c0, h0, h1, f0, f1, -⟩ := h
  have hne : (⟨g, 0, none⟩ : Addr) ≠ ⟨g, 1, none⟩ := by simp
  have hne' : (⟨g, 1, none⟩ : Addr) ≠ ⟨g, 0, none⟩ := by simp
  have e1 : (w.setCell ⟨g, 0, none⟩ (.slice A n c)).cell? ⟨g, 1, none⟩ = some (.int .i64 x) := by rw [World.cell?_setCell_other _ _ _ _ hne]; exact h1
  refine ⟨A, n, c, ?_, World.cell?_setCell_same _ _ _ e1, by simpa using f0, by simpa using f1, hl, hc, hn, (hr.setCell (Nat.le_refl _) _).setCell (Nat.le_refl _) _, hy⟩
  rw [World.cell?_setCell_other _ _ _ _ hne', World.cell?_setCell_same _ _ _ h0]
theorem Rdr.setLeft {A : Option Addr} {n c : Nat} {m : List UInt8} (h : Rdr w g l x) (hl : m.length = n) (hc : n ≤ c) (hn : n ≤ 70368744177664) (hr : Rd w g A m) (hx : x ≠ 0 → m = []) :
    Rdr (w.setCell ⟨g, 0, none⟩ (.slice A n c)) g m x := by
  obtain ⟨A0, n0, c0, h0, h1, f0, f1, -⟩ := h
  have hne : (⟨g, 0, none⟩ : Addr) ≠ ⟨g, 1, none⟩ := by simp
  exact ⟨A, n, c, World.cell?_setCell_same _ _ _ h0, by rw [World.cell?_setCell_other _ _ _ _ hne]; exact h1, by simpa using f0, by simpa using f1, hl, hc, hn, hr.setCell (Nat.le_refl _) _, hx⟩
theorem Rdr.here (h : Rdr w g l x) : g < w.heap.size := by
  obtain ⟨A, n, c, h0, -⟩ := h
  exact block_lt_of_cell h0
end
/-- A method's answer, and the reader behind it; nothing else has turned. -/
def Reads (w : World) (g : Nat) (v : Value) (l : List UInt8) (x : Int) (e : Ending) (w' : World) : Prop := e = .returned v ∧ Rdr w' g l x ∧ w.grownBy w' (some g)
/-- Made bad. -/
def spoil (l : List UInt8) (x y : Int) : List UInt8 × Int := if x ≠ 0 ∨ y = 0 then (l, x) else ([], y)
/-- The end's number. -/
def endOf (l : List UInt8) (x : Int) : Int := if x = 0 ∧ 0 < l.length then 4 else x
/-- A new reader. -/
def NewPost (w : World) (l : List UInt8) (e : Ending) (w' : World) : Prop := ∃ g, e = .returned (.pointer (some ⟨g, 0, none⟩)) ∧ w.heap.size ≤ g ∧ g < w'.heap.size ∧ Rdr w' g l 0 ∧ Below w.heap.size w w'
/-- The next number. -/
def numOf (l : List UInt8) (x : Int) (most : Nat) : Nat × List UInt8 × Int :=
  if x ≠ 0 then (0, l, x) else if (pars 0 0 l).2.2 ≠ 0 then (0, [], (pars 0 0 l).2.2) else if most < (pars 0 0 l).1 then (0, [], 9) else ((pars 0 0 l).1, l.drop (pars 0 0 l).2.1, 0)
end Go.Proofs.Ytoflbfkmkalgcaa

/-! What else a reader's methods answer: bytes. -/
namespace Go.Proofs.Ytoflbfkmkalgcaa
open Go.RowKit Me Va

theorem numOf_fits (l : List UInt8) (x : Int) (most : Nat) : (numOf l x most).1 < 18446744073709551616 := by
  unfold numOf
  split
  · exact (by decide : 0 < 18446744073709551616)
  · split
    · exact (by decide : 0 < 18446744073709551616)
    · split
      · exact (by decide : 0 < 18446744073709551616)
      · exact pars_fits (l := l) rfl
/-- The greatest number. -/
def top : Nat := 18446744073709551615
theorem top_int : (18446744073709551615 : Int) = (top : Int) := rfl
/-- The next bytes. -/
def bytesOf (l : List UInt8) (x k : Int) : List UInt8 × List UInt8 × Int :=
  if x ≠ 0 then ([], l, x) else if k < 0 then ([], [], 1) else if (l.length : Int) < k then ([], [], 2) else (l.take k.toNat, l.drop k.toNat, 0)
/-- Bytes are answered, in memory of their own; and the reader behind it. -/
def Gives (w : World) (g : Nat) (out l : List UInt8) (x : Int) (e : Ending) (w' : World) : Prop :=
  ∃ A n c, e = .returned (.slice A n c) ∧ out.length = n ∧ n ≤ c ∧ w'.ownsRow w.heap.size 5 1 (.slice A n c) n (cellsOf out) ∧ Rd w' w'.heap.size A out ∧ Rdr w' g l x ∧ w.grownBy w' (some g)
theorem gives_none {w w' : World} {g : Nat} {l : List UInt8} {x : Int} (hr : Rdr w' g l x) (hg : w.grownBy w' (some g)) : Gives w g [] l x (.returned (.slice none 0 0)) w' :=
  ⟨none, 0, 0, rfl, rfl, Nat.le_refl _, World.ownsRow_nil _ _ _ _, Rd.empty, hr, hg⟩
theorem gives_some {w w1 : World} {g m d n c : Nat} {X A : Option Addr} {out l : List UInt8} {x : Int} (hg : g < w.heap.size) (hl : out.length = m) (hd : m ≤ d) (ho : w1.ownsRow w.heap.size 5 1 (.slice X m d) m (cellsOf out)) (hb : Below w.heap.size w w1)
    (hs : Rdr (w1.setCell ⟨g, 0, none⟩ (.slice A n c)) g l x) : Gives w g out l x (.returned (.slice X m d)) (w1.setCell ⟨g, 0, none⟩ (.slice A n c)) := by
  have h1 : (w1.setCell ⟨g, 0, none⟩ (.slice A n c)).ownsRow w.heap.size 5 1 (.slice X m d) m (cellsOf out) := ownsRow_setCell_below ho (a := ⟨g, 0, none⟩) hg _
  have h2 : w.grownBy w1 (some g) := ⟨hb.os, hb.tape, hb.output, hb.size, fun k hk _ => hb.block k hk⟩
  exact ⟨X, m, d, rfl, hl, hd, h1, Rd.of_own h1, hs, h2.trans (grownBy_set w1 ⟨g, 0, none⟩ _)⟩
end Go.Proofs.Ytoflbfkmkalgcaa

/-! The next number of a reader: the plain mathematics. -/
namespace Go.Proofs.Ytoflbfkmkalgcaa
open Go.RowKit Me Va

theorem read_num {n : Nat} (r : List UInt8) (h : n < 18446744073709551616) (most : Nat) (hm : n ≤ most) : numOf (enc n ++ r) 0 most = (n, r, 0) := by
  unfold numOf
  rw [if_neg (by simp), pars_put h r, if_neg (by simp), if_neg (by simp; omega)]
  simp
theorem pars_take : ∀ (l : List UInt8) (i acc x k : Nat), pars i acc l = (x, i + k, 0) → pars i acc (l.take k) = (x, i + k, 0)
  | [], i, acc, x, k, h => by
    rw [pars] at h
    simp at h
  | u :: l, i, acc, x, k, h => by
    have hb := pars_bounds _ _ _ _ _ _ h
    obtain ⟨k, rfl⟩ : ∃ j, k = j + 1 := ⟨k - 1, by omega⟩
    rw [List.take_succ_cons]
    rw [pars] at h ⊢
    split at h
    · simp at h
    · rename_i hr
      rw [if_neg hr]
      split at h
      · rename_i hs
        rw [if_pos hs]
        exact h
      · rename_i hs
        rw [if_neg hs]
        rw [show i + (k + 1) = i + 1 + k by omega] at h ⊢
        exact pars_take l (i + 1) _ x k h
/-- A number that was read stands there just as it is put. -/
theorem numOf_stood {l l' : List UInt8} {most n : Nat} (h : numOf l 0 most = (n, l', 0)) : l = enc n ++ l' := by
  unfold numOf at h
  rw [if_neg (by simp)] at h
  obtain ⟨y, k, z, hp⟩ : ∃ y k z, pars 0 0 l = (y, k, z) := ⟨_, _, _, rfl⟩
  rw [hp] at h
  split at h
  · rename_i hz
    simp only [Prod.mk.injEq] at h
    exact absurd h.2.2 hz
  · rename_i hz
    split at h
    · simp at h
    · simp only [Prod.mk.injEq, and_true] at h
      obtain ⟨rfl, rfl⟩ := h
      have hz' : z = 0 := by simpa using hz
      subst hz'
      have hb := pars_bounds l 0 0 y k 0 hp
      have ht := pars_take l 0 0 y k (by simpa using hp)
      have hk : k ≤ l.length := by omega
      have hw := enc_whole (l := l.take k) (x := y) (by rw [List.length_take, Nat.min_eq_left hk]; simpa using ht)
      rw [hw, List.take_append_drop]
theorem numOf_bad {l : List UInt8} {x : Int} {most : Nat} (hx : x ≠ 0 → l = []) (h : (numOf l x most).2.2 ≠ 0) : (numOf l x most).2.1 = [] := by
  unfold numOf at h ⊢
  split
  · rename_i e
    exact hx e
  · split
    · rfl
    · split
      · rfl
      · rename_i e e1 e2
        rw [if_neg e, if_neg e1, if_neg e2] at h
        exact absurd rfl h
theorem numOf_zero {l : List UInt8} {x : Int} {most : Nat} (h : (numOf l x most).2.2 ≠ 0) : (numOf l x most).1 = 0 := by
  unfold numOf at h ⊢
  split
  · rfl
  · split
    · rfl
    · split
      · rfl
      · rename_i e e1 e2
        rw [if_neg e, if_neg e1, if_neg e2] at h
        exact absurd rfl h
theorem numOf_err0 {l : List UInt8} {x : Int} {most : Nat} (h : (numOf l x most).2.2 = 0) : x = 0 := by
  unfold numOf at h
  split at h
  · exact h
  · rename_i e
    simpa using e
end Go.Proofs.Ytoflbfkmkalgcaa

/-! The document's reader: bytes that are left, and the first error's number. -/
namespace Go.Proofs.Ytoflbfkmkalgcaa
open Go.RowKit Me Va

/-- A number and what is left are answered. -/
def Tells (w : World) (B : Nat) (v : Value) (l : List UInt8) (x : Int) (e : Ending) (w' : World) : Prop :=
  Below w.heap.size w w' ∧ ∃ A n c, e = .returned (.tuple #[v, .agg #[.slice A n c, .int .i64 x]]) ∧ l.length = n ∧ n ≤ c ∧ Rd w B A l
theorem tells_of {w w' : World} {B n c : Nat} {A : Option Addr} {v : Value} {l : List UInt8} {x : Int} (hb : Below w.heap.size w w') (hl : l.length = n) (hc : n ≤ c) (hr : Rd w B A l) :
    Tells w B v l x (.returned (.tuple #[v, .agg #[.slice A n c, .int .i64 x]])) w' := ⟨hb, A, n, c, rfl, hl, hc, hr⟩
theorem two_new (w : World) (o o' : Obj) : Below w.heap.size w ((w.alloc o).alloc o') := ((Below.refl _ _).alloc (Nat.le_refl _) _).alloc (by simp) _
theorem two_new_drew (w : World) (o o' : Obj) : Below w.heap.size w ((w.alloc o).alloc o').drew := (two_new w o o').drew
end Go.Proofs.Ytoflbfkmkalgcaa

/-! Readers and blocks of two cells, behind writes into other blocks. -/
namespace Go.Proofs.Ytoflbfkmkalgcaa
open Go.RowKit Me Va

theorem Rdr.otherCell {w : World} {g : Nat} {l : List UInt8} {x : Int} (h : Rdr w g l x) {p : Addr} (hp : g < p.block) (u : Value) : Rdr (w.setCell p u) g l x :=
  h.below ((Below.refl _ _).setCell (show g + 1 ≤ p.block from hp) u)
/-- A reader does not feel what is written into another block, if its bytes lie elsewhere too. -/
theorem Rdr.apart {w w' : World} {g b : Nat} {l : List UInt8} {x : Int} (h : Rdr w g l x) (hg : w.grownBy w' (some b)) (hb : g < b) : Rdr w' g l x :=
  h.below ⟨hg.os, hg.tape, hg.output, hg.size, fun k hk => by
    have := h.here
    exact hg.block k (by omega) (fun e => by injection e; omega)⟩
theorem Rdr.alloc {w : World} {g : Nat} {l : List UInt8} {x : Int} (h : Rdr w g l x) (o : Obj) : Rdr (w.alloc o) g l x :=
  h.below ((Below.refl _ _).alloc h.here o)
theorem Rdr.drew {w : World} {g : Nat} {l : List UInt8} {x : Int} (h : Rdr w g l x) : Rdr w.drew g l x := h.below (Below.refl _ _).drew
/-- Behind a call that only made memory. -/
theorem Rdr.past {w w' : World} {g : Nat} {l : List UInt8} {x : Int} (h : Rdr w g l x) (hb : Below w.heap.size w w') : Rdr w' g l x := h.below (hb.mono h.here)
theorem numOf_most (l : List UInt8) (x : Int) (most : Nat) : (numOf l x most).1 ≤ most := by
  unfold numOf
  split
  · exact Nat.zero_le _
  · split
    · exact Nat.zero_le _
    · split
      · exact Nat.zero_le _
      · rename_i h; simpa using h
end Go.Proofs.Ytoflbfkmkalgcaa

/-! The document's reader: bytes, the end. -/
namespace Go.Proofs.Ytoflbfkmkalgcaa
open Go.RowKit Me Va

theorem three_new (w : World) (o o' o2 : Obj) : Below w.heap.size w (((w.alloc o).alloc o').alloc o2) := (two_new w o o').alloc (by simp; omega) _
/-- Bytes and what is left are answered. -/
def TellsB (w : World) (B : Nat) (out l : List UInt8) (x : Int) (e : Ending) (w' : World) : Prop :=
  Below w.heap.size w w' ∧ ∃ X m d A n c, e = .returned (.tuple #[.slice X m d, .agg #[.slice A n c, .int .i64 x]]) ∧ out.length = m ∧ Rd w B X out ∧ l.length = n ∧ n ≤ c ∧ Rd w B A l
theorem tellsB_of {w w' : World} {B m d n c : Nat} {X A : Option Addr} {out l : List UInt8} {x : Int} (hb : Below w.heap.size w w') (ho : out.length = m) (hx : Rd w B X out) (hl : l.length = n) (hc : n ≤ c) (hr : Rd w B A l) :
    TellsB w B out l x (.returned (.tuple #[.slice X m d, .agg #[.slice A n c, .int .i64 x]])) w' := ⟨hb, X, m, d, A, n, c, rfl, ho, hx, hl, hc, hr⟩
end Go.Proofs.Ytoflbfkmkalgcaa
