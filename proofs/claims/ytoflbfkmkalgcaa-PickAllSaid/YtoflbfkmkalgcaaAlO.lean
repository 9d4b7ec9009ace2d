/- The draws, one behind the other. -/
import Derived.Test.YtoflbfkmkalgcaaAlS
import Derived.Test.YtoflbfkmkalgcaaAlW
namespace Go.Proofs.Ytoflbfkmkalgcaa
open Go.RowKit Me Va Al

/-- The neighbour that a draw comes to. -/
def toOf (T : List CelD) (S x : Nat) : Nat := match T[x / S]? with
  | some c => if x % S < c.cut then x / S else c.oth
  | none => 0
/-- How many of the first draws come to a neighbour. -/
def metN (T : List CelD) (S k : Nat) : Nat → Nat
  | 0 => 0
  | x + 1 => metN T S k x + if toOf T S x = k then 1 else 0
theorem metN_le (T : List CelD) (S k : Nat) : ∀ x, metN T S k x ≤ x
  | 0 => Nat.le_refl _
  | x + 1 => by
    have := metN_le T S k x
    rw [metN]
    split <;> omega
theorem metN_part {T : List CelD} {S k q : Nat} {c : CelD} (hc : T[q]? = some c) (hcut : c.cut ≤ S) (h0 : metN T S k (S * q) = Al.cnt S k (T.take q)) :
    ∀ r, r ≤ S → metN T S k (S * q + r) = Al.cnt S k (T.take q) + ((if q = k then min r c.cut else 0) + if c.oth = k then r - min r c.cut else 0)
  | 0, _ => by rw [Nat.add_zero, h0]; simp
  | r + 1, hr => by
    have ih := metN_part hc hcut h0 r (by omega)
    rw [← Nat.add_assoc, metN, ih]
    have e1 : (S * q + r) / S = q := by rw [Nat.mul_add_div (by omega), Nat.div_eq_of_lt (by omega), Nat.add_zero]
    have e2 : (S * q + r) % S = r := by rw [Nat.mul_add_mod, Nat.mod_eq_of_lt (by omega)]
    have e3 : toOf T S (S * q + r) = if r < c.cut then q else c.oth := by unfold toOf; rw [e1, hc, e2]
    rw [e3]
    by_cases hlt : r < c.cut
    · rw [if_pos hlt, Nat.min_eq_left (show r ≤ c.cut by omega), Nat.min_eq_left (show r + 1 ≤ c.cut by omega)]
      split <;> split <;> omega
    · rw [if_neg hlt, Nat.min_eq_right (show c.cut ≤ r by omega), Nat.min_eq_right (show c.cut ≤ r + 1 by omega)]
      split <;> split <;> omega
theorem metN_all {T : List CelD} {S k : Nat} (hcut : ∀ c ∈ T, c.cut ≤ S) : ∀ q, q ≤ T.length → metN T S k (S * q) = Al.cnt S k (T.take q)
  | 0, _ => by rw [Nat.mul_zero, List.take_zero]; rfl
  | q + 1, hq => by
    have ih := metN_all (k := k) hcut q (by omega)
    have hc := List.getElem?_eq_getElem (show q < T.length by omega)
    have hcc := hcut _ (List.getElem_mem (show q < T.length by omega))
    rw [Nat.mul_succ, metN_part hc hcc ih S (Nat.le_refl _), cnt_take hc]
    unfold share
    rw [Nat.min_eq_right hcc, Nat.min_eq_left hcc]
set_option maxRecDepth 100000 in
set_option maxHeartbeats 1000000 in
theorem to_any (A : Option Addr) (n c : Nat) (T : List CelD) (S x : Nat) (w : World) (hl : T.length = n) (hn : n ≤ 1000) (hS0 : 0 < S) (hS : S ≤ 2000) (hx : x ≤ 2000) (hq : x / S < n) (hc : Cels w w.heap.size A T) :
    Calls Try.prog 39 #[.slice A n c, .int .u64 (S : Int), .int .u64 (x : Int)] w fun e w' => e = .returned (.int .i64 (toOf T S x : Int)) ∧ Below w.heap.size w w' := by
  obtain ⟨q, hq1⟩ : ∃ q, q = x / S := ⟨_, rfl⟩
  obtain ⟨r, hr1⟩ : ∃ r, r = x % S := ⟨_, rfl⟩
  rw [← hq1] at hq
  have e1 : Int.tdiv (x : Int) (S : Int) = (q : Int) := by rw [hq1]; exact (Int.ofNat_tdiv x S).symm
  have e2 : Int.tmod (x : Int) (S : Int) = (r : Int) := by rw [hr1]; exact (Int.ofNat_tmod x S).symm
  obtain ⟨a, p, rfl, hp, ha, h0, h1, h2, h3⟩ := hc.at (k := q) (by rw [hl]; exact hq)
  have htz : toOf T S x = if r < p.cut then q else p.oth := by unfold toOf; rw [← hq1, ← hr1, hp]
  have HT := Lib.hid htz
  have HB := Lib.hid (show Below w.heap.size w (w.alloc (.cells #[.int .u64 (p.cut : Int), .int .u32 (p.oth : Int)] 46)) from (Below.refl _ _).alloc (Nat.le_refl _) _)
  have hS1 : ¬ (S : Int) = 0 := by omega
  have hS2 : ¬ S = 0 := by omega
  have hqx : q ≤ 2000 := by rw [hq1]; exact Nat.le_trans (Nat.div_le_self _ _) hx
  have hrx : r ≤ 2000 := by rw [hr1]; exact Nat.le_trans (Nat.mod_le _ _) hx
  have hqn : (q : Int) < (n : Int) := by omega
  clear hp htz hq1 hr1 hl hc
  by_cases hlt : r < p.cut
  · have hlt2 : (r : Int) < (p.cut : Int) := by omega
    have FIN := Lib.hid (show toOf T S x = q by rw [HT.out, if_pos hlt])
    go_enter Try.func39, Try.ntmps39
    go_wp2
    go_region
    go_wp2
    go_ret
    exact ⟨ret_int (by rw [FIN.out]), HB.out.drew⟩
  · have hlt2 : ¬ (r : Int) < (p.cut : Int) := by omega
    have FIN := Lib.hid (show toOf T S x = p.oth by rw [HT.out, if_neg hlt])
    go_enter Try.func39, Try.ntmps39
    go_wp2
    go_region
    go_wp2
    go_ret
    exact ⟨ret_int (by rw [FIN.out]), HB.out.drew⟩
end Go.Proofs.Ytoflbfkmkalgcaa
