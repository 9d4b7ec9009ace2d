/- The same cells: the document's. -/
import Derived.Test.YtimladmphcipfaaAlA
import Derived.RegionTactic
namespace Go.Proofs.Ytimladmphcipfaa
open Go.RowKit Me Va Al

set_option maxRecDepth 100000 in
set_option maxHeartbeats 1000000 in
theorem samec_any (A A' : Option Addr) (n c c' : Nat) (l : List CelD) (w : World) (hl : l.length = n) (hn : n ≤ 4294967296) (h : Cels w w.heap.size A l) (h' : Cels w w.heap.size A' l) :
    Calls Try.prog 11 #[.slice A n c, .slice A' n c'] w fun e w' => e = .returned (.bool true) ∧ Below w.heap.size w w' := by
  have HL := Lib.hid hl
  have HA := Lib.hid h
  have HA' := Lib.hid h'
  have d0 : ((n : Int) != (n : Int)) = false := by simp
  clear hl h h'
  go_enter Try.func11, Try.ntmps11
  go_wp2
  go_loopw [13] (fun i wr => ∃ k : Nat, k ≤ n ∧ i = .int .i64 k ∧ Hid (Below w.heap.size w wr)) (fun i _ => n - (intOf i).toNat)
  case atStart => exact ⟨0, Nat.zero_le _, rfl, Lib.hid (Below.refl _ _)⟩
  case round =>
    obtain ⟨k, hk, rfl, HB⟩ := hrel
    by_cases hlt : k < n
    · have hlt' : k < l.length := by rw [HL.out]; exact hlt
      obtain ⟨a, p, rfl, hp, -, h0, h1, h2, h3⟩ := (HA.out.below HB.out).at hlt'
      obtain ⟨a', p', rfl, hp', -, g0, g1, -, -⟩ := (HA'.out.below HB.out).at hlt'
      rw [hp] at hp'
      injection hp' with hp'
      subst hp'
      clear hp hlt'
      go_wp2
      go_region
      all_goals
        go_wp2
        go_roundw
        case rel => exact ⟨k + 1, by omega, by go_num, Lib.hid HB.out.drew⟩
        case measure => simp [intOf]; omega
    · go_wp2
      go_ret
      exact ⟨rfl, HB.out⟩
end Go.Proofs.Ytimladmphcipfaa
