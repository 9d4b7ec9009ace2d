/- The scale, what is scaled, who accepts, who is sure: the program's and the document's. -/
import Derived.Test.YtcmnbeodejphkaaGen
namespace Go.Proofs.Ytcmnbeodejphkaa
open Go.RowKit

theorem bi_ret {a b : Bool} (h : a = b) : Ending.returned (.bool a) = .returned (.bool b) := by rw [h]
/-- The scaled factor. -/
def wt (p q : Nat) (b n : Bool) : Nat := if b then q else if n then p * q else p
theorem mul_lt {p q : Nat} (hp : p < 4294967296) (hq : q < 4294967296) : p * q < 18446744073709551616 := by
  have : p * q ≤ 4294967295 * 4294967295 := Nat.mul_le_mul (by omega) (by omega)
  omega
theorem wt_lt {p q : Nat} {b n : Bool} (hp : p < 4294967296) (hq : q < 4294967296) : wt p q b n < 18446744073709551616 := by
  have := mul_lt hp hq
  unfold wt
  split
  · omega
  · split <;> omega
theorem wt_le {p q : Nat} {b n : Bool} (hp : 1 ≤ p) (hq : 1 ≤ q) : wt p q b n ≤ p * q := by
  have h1 : 1 * q ≤ p * q := Nat.mul_le_mul_right q hp
  have h2 : p * 1 ≤ p * q := Nat.mul_le_mul_left p hq
  unfold wt
  split
  · omega
  · split <;> omega
set_option maxRecDepth 100000 in
theorem scale_any (p q s : Nat) (w : World) (hp : p < 4294967296) (hq : q < 4294967296) (hs : p * q = s) :
    Calls Try.prog 8 #[.int .u32 (p : Int), .int .u32 (q : Int)] w fun e w' => e = .returned (.int .u64 (s : Int)) ∧ w' = w := by
  have hs2 := mul_lt hp hq
  rw [hs] at hs2
  have e1 : (p : Int) * (q : Int) = (s : Int) := by rw [← hs]; exact (Int.natCast_mul _ _).symm
  have v1 : IntKind.u64.wrap (p : Int) = (p : Int) := IntWalk.u64_in _ (by omega)
  have v2 : IntKind.u64.wrap (q : Int) = (q : Int) := IntWalk.u64_in _ (by omega)
  have v3 : IntKind.u64.wrap (s : Int) = (s : Int) := IntWalk.u64_in _ (by omega)
  clear hs
  go_enter Try.func8, Try.ntmps8
  go_wp2
  go_ret
  exact ⟨rfl, rfl⟩
set_option maxRecDepth 100000 in
theorem weight_any (p q x : Nat) (b n : Bool) (w : World) (hp : p < 4294967296) (hq : q < 4294967296) (hx : wt p q b n = x) :
    Calls Try.prog 9 #[.int .u32 (p : Int), .int .u32 (q : Int), .bool b, .bool n] w fun e w' => e = .returned (.int .u64 (x : Int)) ∧ w' = w := by
  have v1 : IntKind.u64.wrap (p : Int) = (p : Int) := IntWalk.u64_in _ (by omega)
  have v2 : IntKind.u64.wrap (q : Int) = (q : Int) := IntWalk.u64_in _ (by omega)
  cases b with
  | true =>
    have hx' : q = x := hx
    subst hx'
    go_enter Try.func9, Try.ntmps9
    go_wp2
    go_ret
    exact ⟨rfl, rfl⟩
  | false =>
    cases n with
    | true =>
      have HS := Lib.hid (scale_any p q x w hp hq hx)
      clear hx
      go_enter Try.func9, Try.ntmps9
      go_wp2_with fail
      refine HS.out.mono ?_
      rintro e w1 ⟨rfl, rfl⟩
      go_wp2
      go_ret
      exact ⟨rfl, rfl⟩
    | false =>
      have hx' : p = x := hx
      subst hx'
      go_enter Try.func9, Try.ntmps9
      go_wp2
      go_ret
      exact ⟨rfl, rfl⟩
set_option maxRecDepth 100000 in
theorem refweight_any (p q x : Nat) (b n : Bool) (w : World) (hp : p < 4294967296) (hq : q < 4294967296) (hx : wt p q b n = x) :
    Calls Try.prog 10 #[.int .u32 (p : Int), .int .u32 (q : Int), .bool b, .bool n] w fun e w' => e = .returned (.int .u64 (x : Int)) ∧ w' = w := by
  have v1 : IntKind.u64.wrap (p : Int) = (p : Int) := IntWalk.u64_in _ (by omega)
  have v2 : IntKind.u64.wrap (q : Int) = (q : Int) := IntWalk.u64_in _ (by omega)
  cases b with
  | true =>
    have hx' : q = x := hx
    subst hx'
    go_enter Try.func10, Try.ntmps10
    go_wp2
    go_ret
    exact ⟨rfl, rfl⟩
  | false =>
    cases n with
    | true =>
      have hx' : p * q = x := hx
      have hs2 := mul_lt hp hq
      rw [hx'] at hs2
      have e1 : (p : Int) * (q : Int) = (x : Int) := by rw [← hx']; exact (Int.natCast_mul _ _).symm
      have v3 : IntKind.u64.wrap (x : Int) = (x : Int) := IntWalk.u64_in _ (by omega)
      clear hx hx'
      go_enter Try.func10, Try.ntmps10
      go_wp2
      go_ret
      exact ⟨rfl, rfl⟩
    | false =>
      have hx' : p = x := hx
      subst hx'
      go_enter Try.func10, Try.ntmps10
      go_wp2
      go_ret
      exact ⟨rfl, rfl⟩
set_option maxRecDepth 100000 in
theorem accepts_any (p q u : Nat) (b n y : Bool) (w : World) (hp : p < 4294967296) (hq : q < 4294967296) (hy : decide (u < wt p q b n) = y) :
    Calls Try.prog 12 #[.int .u32 (p : Int), .int .u32 (q : Int), .bool b, .bool n, .int .u64 (u : Int)] w fun e w' => e = .returned (.bool y) ∧ w' = w := by
  obtain ⟨x, hx⟩ : ∃ x, wt p q b n = x := ⟨_, rfl⟩
  have HW := Lib.hid (weight_any p q x b n w hp hq hx)
  rw [hx] at hy
  clear hx
  have HY := Lib.hid hy
  clear hy
  go_enter Try.func12, Try.ntmps12
  go_wp2_with fail
  refine HW.out.mono ?_
  rintro e w1 ⟨rfl, rfl⟩
  go_wp2
  go_ret
  exact ⟨bi_ret (by rw [← HY.out]), rfl⟩
set_option maxRecDepth 100000 in
theorem sure_any (p q u : Nat) (b y z : Bool) (w : World) (hp : p < 4294967296) (hq : q < 4294967296) (hy : decide (u < wt p q b true) = y) (hz : decide (u < wt p q b false) = z) :
    Calls Try.prog 13 #[.int .u32 (p : Int), .int .u32 (q : Int), .bool b, .int .u64 (u : Int)] w fun e w' => e = .returned (.tuple #[.bool (y && z), .bool (y == z)]) ∧ w' = w := by
  have HY := Lib.hid (accepts_any p q u b true y w hp hq hy)
  have HZ := Lib.hid (accepts_any p q u b false z w hp hq hz)
  clear hy hz
  cases y <;> cases z <;>
  · go_enter Try.func13, Try.ntmps13
    go_wp2_with fail
    refine HY.out.mono ?_
    rintro e w1 ⟨rfl, rfl⟩
    go_wp2_with fail
    refine HZ.out.mono ?_
    rintro e w2 ⟨rfl, rfl⟩
    go_wp2
    go_ret2
    exact ⟨rfl, rfl⟩
/-- The document's example. -/
theorem awake18_any (w : World) : Calls Try.prog 11 #[] w fun e w' => e = .returned (.bool true) ∧ w' = w := by
  have H1 := Lib.hid (scale_any 2 3 6 w (by omega) (by omega) rfl)
  have H2 := Lib.hid (weight_any 2 3 3 true false w (by omega) (by omega) rfl)
  have H3 := Lib.hid (weight_any 2 3 6 false true w (by omega) (by omega) rfl)
  have H4 := Lib.hid (weight_any 2 3 2 false false w (by omega) (by omega) rfl)
  go_enter Try.func11, Try.ntmps11
  go_wp2_with fail
  refine H1.out.mono ?_
  rintro e w1 ⟨rfl, rfl⟩
  go_wp2_with fail
  refine H2.out.mono ?_
  rintro e w2 ⟨rfl, rfl⟩
  go_wp2_with fail
  refine H3.out.mono ?_
  rintro e w3 ⟨rfl, rfl⟩
  go_wp2_with fail
  refine H4.out.mono ?_
  rintro e w4 ⟨rfl, rfl⟩
  go_wp2
  go_ret
  exact ⟨rfl, rfl⟩
end Go.Proofs.Ytcmnbeodejphkaa
