/- The example; the same arcs. -/
import Derived.Test.YtniffijjdehnaaaRefPutA
import Derived.RegionTactic
namespace Go.Proofs.Ytniffijjdehnaaa
open Go.RowKit Me Va

theorem enc_one (n : Nat) (h : n < 128) : enc n = [UInt8.ofNat n] := enc_small h
theorem example_bytes : encArcs [⟨5, 1⟩, ⟨7, 2⟩] = [2, 5, 0, 1, 1] := by
  simp only [encArcs, encGaps, List.length_cons, List.length_nil, Nat.reduceAdd, Nat.reduceSub, Nat.sub_zero, Nat.sub_self]
  rw [enc_one 2 (by decide), enc_one 5 (by decide), enc_one 0 (by decide), enc_one 1 (by decide)]
  decide
theorem example_may : may [⟨5, 1⟩, ⟨7, 2⟩] = true := by decide
set_option maxRecDepth 100000 in
set_option maxHeartbeats 400000 in
theorem same_any (A A' : Option Addr) (n c c' : Nat) (l : List ArcD) (w : World) (B B' : Nat) (hl : l.length = n) (hn : n ≤ 4294967296) (h : Arcs w B A l) (h' : Arcs w B' A' l) (hB : B ≤ w.heap.size) (hB' : B' ≤ w.heap.size) :
    Calls Try.prog 28 #[.slice A n c, .slice A' n c'] w fun e w' => e = .returned (.bool true) ∧ Below w.heap.size w w' := by
  have HL := Lib.hid hl
  have HA := Lib.hid (h.more hB)
  have HA' := Lib.hid (h'.more hB')
  have d0 : ((n : Int) != (n : Int)) = false := by simp
  clear hl h h'
  go_enter Try.func28, Try.ntmps28
  go_wp2
  go_loopw [13] (fun i wr => ∃ k : Nat, k ≤ n ∧ i = .int .i64 k ∧ Hid (Below w.heap.size w wr)) (fun i _ => n - (intOf i).toNat)
  case atStart => exact ⟨0, Nat.zero_le _, rfl, Lib.hid (Below.refl _ _)⟩
  case round =>
    obtain ⟨k, hk, rfl, HB⟩ := hrel
    by_cases hlt : k < n
    · have hlt' : k < l.length := by rw [HL.out]; exact hlt
      obtain ⟨a, p, rfl, hp, -, h0, h1, h2, h3⟩ := (HA.out.below HB.out).at hlt'
      obtain ⟨a', p', rfl, hp', -, g0, g1, -, -⟩ := (HA'.out.below HB.out).at hlt'
      rw [hp] at hp'
      injection hp' with hp'
      subst hp'
      clear hp hlt'
      go_wp2
      go_region
      all_goals
        go_wp2
        go_roundw
        case rel => exact ⟨k + 1, by omega, by go_num, Lib.hid HB.out.drew⟩
        case measure => simp [intOf]; omega
    · go_wp2
      go_ret
      exact ⟨rfl, HB.out⟩
end Go.Proofs.Ytniffijjdehnaaa
