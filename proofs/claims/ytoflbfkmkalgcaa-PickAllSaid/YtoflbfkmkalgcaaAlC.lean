/- How many of the draws select a neighbour: Count, the program's and the document's. -/
import Derived.Test.YtoflbfkmkalgcaaAlA
import Derived.RegionTactic
namespace Go.Proofs.Ytoflbfkmkalgcaa
open Go.RowKit Me Va Al

theorem shares_any (cut oth w : Nat) (hc : cut < 18446744073709551616) (hw : w < 18446744073709551616) (W : World) :
    Calls Try.prog 35 #[.agg #[.int .u64 (cut : Int), .int .u32 (oth : Int)], .int .u64 (w : Int)] W fun e W' => e = .returned (.tuple #[.int .u64 ((min cut w : Nat) : Int), .int .u64 ((w - min cut w : Nat) : Int)]) ∧ Below W.heap.size W W' := by
  obtain ⟨m, hm⟩ : ∃ m, m = min cut w := ⟨_, rfl⟩
  obtain ⟨r, hr⟩ : ∃ r, r = w - m := ⟨_, rfl⟩
  rw [← hm, ← hr]
  have e1 : (w : Int) - (m : Int) = (r : Int) := by omega
  have hr2 : r < 18446744073709551616 := by omega
  have HB := Lib.hid (show Below W.heap.size W (W.alloc (.cells #[.int .u64 (cut : Int), .int .u32 (oth : Int)] 46)) from (Below.refl _ _).alloc (Nat.le_refl _) _)
  have hmm : min (cut : Int) (w : Int) = (m : Int) := by omega
  clear hr
  by_cases h : cut ≤ w
  · have h2 : (cut : Int) ≤ (w : Int) := by omega
    have h3 : m = cut := by omega
    subst h3
    have h4 : ¬ (w : Int) < (m : Int) := by omega
    clear hm
    go_enter Try.func35, Try.ntmps35
    go_wp2
    go_ret2
    exact ⟨rfl, HB.out⟩
  · have h2 : ¬ (cut : Int) ≤ (w : Int) := by omega
    have h3 : m = w := by omega
    subst h3
    have h4 : (m : Int) < (cut : Int) := by omega
    clear hm
    go_enter Try.func35, Try.ntmps35
    go_wp2
    go_ret2
    exact ⟨rfl, HB.out⟩
/-- The remainder modulo 2^64. -/
def wr64 (x : Nat) : Nat := x % 18446744073709551616
theorem wr64_lt (x : Nat) : wr64 x < 18446744073709551616 := Nat.mod_lt _ (by decide)
theorem wr64_add (x y : Nat) : IntKind.u64.wrap ((wr64 x : Int) + (y : Int)) = (wr64 (x + y) : Int) := by
  rw [IntKind.wrap_u64]
  unfold wr64
  omega
theorem wr64_id {x : Nat} (h : x < 18446744073709551616) : wr64 x = x := Nat.mod_eq_of_lt h
/-- How many of the draws select the neighbour with this number; it may be any. -/
def cntZ (w : Nat) (to : Int) (T : List CelD) : Nat := if 0 ≤ to then Al.cnt w to.toNat T else 0
theorem cntZ_take {w : Nat} {to : Int} {T : List CelD} {i : Nat} {c : CelD} (h : T[i]? = some c) :
    cntZ w to (T.take (i + 1)) = cntZ w to (T.take i) + ((if (i : Int) = to then min c.cut w else 0) + if (c.oth : Int) = to then w - min c.cut w else 0) := by
  unfold cntZ
  by_cases h0 : 0 ≤ to
  · rw [if_pos h0, if_pos h0, cnt_take h]
    unfold share
    have e1 : (i = to.toNat) ↔ ((i : Int) = to) := by omega
    have e2 : (c.oth = to.toNat) ↔ ((c.oth : Int) = to) := by omega
    simp only [e1, e2]
  · rw [if_neg h0, if_neg h0, if_neg (by omega), if_neg (by omega)]
theorem cntZ_nat (w k : Nat) (T : List CelD) : cntZ w (k : Int) T = Al.cnt w k T := by unfold cntZ; rw [if_pos (by omega)]; rfl
end Go.Proofs.Ytoflbfkmkalgcaa
