/- Texts put together, for a law: SumA, PutA, RefMay, RefPutA, AwakeA. -/
import Derived.Deep.RegionHeld3
import Derived.RegionTactic
import Derived.Test.YteaibgnelnblnaaKQ5
import Derived.Test.YteaibgnelnblnaaKQ3
section
namespace Go.Proofs.Yteaibgnelnblnaa
open Go.RowKit Me Va

theorem sum_fits {l : List ArcD} (hn : l.length ≤ 4294967296) (hf : ∀ p ∈ l, p.fits) (k : Nat) : sumOf (l.take k) ≤ 18446744069414584320 := by
  have h1 := sumOf_take_le l k
  have h2 := sumOf_le hf
  have h3 : l.length * 4294967295 ≤ 4294967296 * 4294967295 := Nat.mul_le_mul_right _ hn
  omega
set_option maxRecDepth 100000 in
set_option maxHeartbeats 400000 in
theorem refsum_any (L : Option Addr) (n c : Nat) (l : List ArcD) (w : World) (hl : l.length = n) (hn : n ≤ 4294967296) (hr : Arcs w w.heap.size L l) :
    Calls Try.prog 53 #[.slice L n c] w fun e w' => e = .returned (.int .u64 (sumOf l : Int)) ∧ w = w' := by
  have HS := Lib.hid (sum_fits (l := l) (by omega) hr.2)
  have HL := Lib.hid hl
  have HR := Lib.hid hr
  clear hl hr
  go_enter Try.func53, Try.ntmps53
  go_wp2
  go_loop [3, 7] (fun x i => ∃ k : Nat, k ≤ n ∧ i = .int .i64 k ∧ (∃ s : Nat, x = .int .u64 (s : Int) ∧ Hid (s = sumOf (l.take k)))) (fun _ i => n - (intOf i).toNat)
  case atStart => exact ⟨0, Nat.zero_le _, rfl, ⟨0, rfl, Lib.hid rfl⟩⟩
  case round =>
    obtain ⟨k, hk, rfl, ⟨s, rfl, HE⟩⟩ := hrel
    by_cases hlt : k < n
    · have hlt' : k < l.length := by rw [HL.out]; exact hlt
      obtain ⟨a, p, rfl, hp, ha, h0, h1, h2, h3⟩ := HR.out.at hlt'
      have hs := HS.out (k + 1)
      have HT := Lib.hid (sumOf_take hp)
      rw [HT.out, ← HE.out] at hs
      clear hp hlt'
      go_wp2
      go_round
      case rel => exact ⟨k + 1, by omega, by go_num, ⟨s + p.weight, by go_num, Lib.hid (by rw [HT.out, HE.out])⟩⟩
      case measure => simp [intOf]; omega
    · have HE2 := Lib.hid (show s = sumOf l by rw [HE.out, List.take_of_length_le (by rw [HL.out]; omega)])
      go_wp2
      go_ret
      exact ⟨ret_int (by rw [HE2.out]), rfl⟩
/-- Up to here they rise. -/
def Up (l : List ArcD) (k least : Nat) : Prop := rises 0 (l.take k) = true ∧ least = leastOf (l.take k)
end Go.Proofs.Yteaibgnelnblnaa
end
section
namespace Go.Proofs.Yteaibgnelnblnaa
open Go.RowKit Me Va

/-- What stands behind some rounds: the bytes so far. -/
def PutsRel (w : World) (b : List UInt8) (l : List ArcD) (k : Nat) (v : Value) (wr : World) : Prop :=
  ∃ m, m ≤ b.length + 10 + k * 20 ∧ wr.ownsRow w.heap.size 5 1 v m (cellsOf (b ++ enc l.length ++ encGaps 0 (l.take k))) ∧ Below w.heap.size w wr
end Go.Proofs.Yteaibgnelnblnaa
end
section
namespace Go.Proofs.Yteaibgnelnblnaa
open Go.RowKit Me Va

end Go.Proofs.Yteaibgnelnblnaa
end
section
namespace Go.Proofs.Yteaibgnelnblnaa
open Go.RowKit Me Va

/-- What stands behind some rounds: the bytes so far. -/
def RefRel (w : World) (l : List ArcD) (k : Nat) (v : Value) (wr : World) : Prop :=
  ∃ m, m ≤ 10 + k * 20 ∧ wr.ownsRow w.heap.size 5 1 v m (cellsOf (enc l.length ++ encGaps 0 (l.take k))) ∧ Below w.heap.size w wr
end Go.Proofs.Yteaibgnelnblnaa
end
section
namespace Go.Proofs.Yteaibgnelnblnaa
open Go.RowKit Me Va

end Go.Proofs.Yteaibgnelnblnaa
end
