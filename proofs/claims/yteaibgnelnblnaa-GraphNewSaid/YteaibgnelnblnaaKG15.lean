/- Texts put together, for a law: MkA, MkB. -/
import Derived.Deep.RegionHeld3
import Derived.RegionTactic
import Derived.Deep.DeepCutAuto
import Derived.Test.YteaibgnelnblnaaKG2
import Derived.Test.YteaibgnelnblnaaKG3
import Derived.Test.YteaibgnelnblnaaKG3
import Derived.Test.YteaibgnelnblnaaKG13
section
namespace Go.Proofs.Yteaibgnelnblnaa
open Go.RowKit Me Tx Ed Mg

theorem cells_be4 (n : Nat) (hn : n < 4294967296) : cellsOf (be4 n) = [.int .u8 ((n / 16777216 : Nat) : Int), .int .u8 ((n / 65536 % 256 : Nat) : Int), .int .u8 ((n / 256 % 256 : Nat) : Int), .int .u8 ((n % 256 : Nat) : Int)] := by
  unfold be4
  simp only [cellsOf, List.map_cons, List.map_nil]
  rw [nat_u8 (by omega), nat_u8 (by omega), nat_u8 (by omega), nat_u8 (by omega)]
end Go.Proofs.Yteaibgnelnblnaa
end
section
namespace Go.Proofs.Yteaibgnelnblnaa
open Go.RowKit Me Tx Ed Mg

theorem adr_at (x : Addr) (j : Nat) : x.add (j + 1) = ⟨x.block, x.off + (j + 1), none⟩ := by
  have := add_field x 0 j
  rw [Nat.zero_add] at this
  rw [this]
  unfold Addr.add
  simp
theorem adr_zero (x : Addr) : x.add 0 = x := by unfold Addr.add; simp
/-- What is known of each slot where four bytes are put together. -/
def rnG (c : Nat) (a : Addr) (x0 x1 x2 x3 m0 m1 m2 s1 s2 s3 : Nat) : Gw.Fact := fun t v _ =>
  match t with
  | 0 | 3 | 8 | 14 | 20 => v = .slice (some a) 4 c
  | 4 => v = .pointer (some (a.add 0))
  | 9 => v = .pointer (some (a.add 1))
  | 15 => v = .pointer (some (a.add 2))
  | 21 => v = .pointer (some (a.add 3))
  | 5 => v = .int .u8 (x0 : Int)
  | 6 => v = .int .u32 (x0 : Int)
  | 7 => v = .int .u32 (m0 : Int)
  | 10 => v = .int .u8 (x1 : Int)
  | 11 => v = .int .u32 (x1 : Int)
  | 12 => v = .int .u32 (m1 : Int)
  | 13 => v = .int .u32 (s1 : Int)
  | 16 => v = .int .u8 (x2 : Int)
  | 17 => v = .int .u32 (x2 : Int)
  | 18 => v = .int .u32 (m2 : Int)
  | 19 => v = .int .u32 (s2 : Int)
  | 22 => v = .int .u8 (x3 : Int)
  | 23 => v = .int .u32 (x3 : Int)
  | 24 | 2 => v = .int .u32 (s3 : Int)
  | _ => True
/-- What is known of each slot where a key is taken apart. -/
def roG (a : Addr) (c x0 x1 x2 : Nat) : Gw.Fact := fun t v _ =>
  match t with
  | 0 | 8 | 11 | 14 => v = .slice (some a) 12 c
  | 9 => v = .slice (some a) 4 c
  | 12 => v = .slice (some ⟨a.block, a.off + 4, none⟩) 4 (c - 4)
  | 15 => v = .slice (some ⟨a.block, a.off + 8, none⟩) 4 (c - 8)
  | 10 => v = .int .u32 (x0 : Int)
  | 13 => v = .int .u32 (x1 : Int)
  | 16 => v = .int .u32 (x2 : Int)
  | _ => True
theorem ed_one (x y z : Nat) : (#[.int .u32 (x : Int), .int .u32 (y : Int), .int .u32 (z : Int)] : Array Value).all (·.oneCell') = true := by simp [Value.oneCell']
end Go.Proofs.Yteaibgnelnblnaa
end
