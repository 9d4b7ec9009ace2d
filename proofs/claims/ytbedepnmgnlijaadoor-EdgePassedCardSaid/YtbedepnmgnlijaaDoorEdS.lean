/- The same edges twice are the same; whether edges may be. -/
import Derived.Test.YtbedepnmgnlijaaDoorEdM
import Derived.Test.YtbedepnmgnlijaaDoorEdW
import Derived.RegionTactic
namespace Go.Proofs.YtbedepnmgnlijaaDoor
open Go.RowKit Me Tx Ed

set_option maxRecDepth 100000 in
set_option maxHeartbeats 400000 in
theorem esame_any (A A' : Option Addr) (n c c' : Nat) (l : List EdD) (w : World) (hl : l.length = n) (hn : n ≤ 4294967296) (h : Eds w w.heap.size A l) (h' : Eds w w.heap.size A' l) :
    Calls Tryd.prog 14 #[.slice A n c, .slice A' n c'] w fun e w' => e = .returned (.bool true) ∧ Below w.heap.size w w' := by
  have HL := Lib.hid hl
  have HA := Lib.hid h
  have HA' := Lib.hid h'
  have d0 : ((n : Int) != (n : Int)) = false := by simp
  clear hl h h'
  go_enter Tryd.func14, Tryd.ntmps14
  go_wp2
  go_loopw [13] (fun i wr => ∃ k : Nat, k ≤ n ∧ i = .int .i64 k ∧ Hid (Below w.heap.size w wr)) (fun i _ => n - (intOf i).toNat)
  case atStart => exact ⟨0, Nat.zero_le _, rfl, Lib.hid (Below.refl _ _)⟩
  case round =>
    obtain ⟨k, hk, rfl, HB⟩ := hrel
    by_cases hlt : k < n
    · have hlt' : k < l.length := by rw [HL.out]; exact hlt
      obtain ⟨a, p, rfl, hp, -, h0, h1, h2, h3⟩ := (HA.out.below HB.out).at hlt'
      obtain ⟨a', p', rfl, hp', -, g0, g1, g2, -⟩ := (HA'.out.below HB.out).at hlt'
      rw [hp] at hp'
      injection hp' with hp'
      subst hp'
      clear hp hlt' h3
      go_wp2
      go_region
      all_goals
        go_wp2
        go_roundw
        case rel => exact ⟨k + 1, by omega, by go_num, Lib.hid HB.out.drew⟩
        case measure => simp [intOf]; omega
    · go_wp2
      go_ret
      exact ⟨rfl, HB.out⟩
set_option maxRecDepth 100000 in
set_option maxHeartbeats 400000 in
theorem emay_any (A : Option Addr) (n c : Nat) (l : List EdD) (w : World) (hl : l.length = n) (hn : n ≤ 4294967296) (h : Eds w w.heap.size A l) :
    Calls Tryd.prog 17 #[.slice A n c] w fun e w' => e = .returned (.bool (l.all mayB)) ∧ Below w.heap.size w w' := by
  have HL := Lib.hid hl
  have HA := Lib.hid h
  have HD := Lib.hid (show (l.take 0).all mayB = true from rfl)
  obtain ⟨r, hr⟩ : ∃ r, r = l.all mayB := ⟨_, rfl⟩
  have HRR := Lib.hid hr
  rw [← hr]
  clear hl h hr
  go_enter Tryd.func17, Tryd.ntmps17
  go_wp2
  go_loopw [6] (fun i wr => ∃ k : Nat, k ≤ n ∧ i = .int .i64 k ∧ Hid ((l.take k).all mayB = true) ∧ Hid (Below w.heap.size w wr)) (fun i _ => n - (intOf i).toNat)
  case atStart => exact ⟨0, Nat.zero_le _, rfl, HD, Lib.hid (Below.refl _ _)⟩
  case round =>
    clear HD
    obtain ⟨k, hk, rfl, HD, HB⟩ := hrel
    by_cases hlt : k < n
    · have hlt' : k < l.length := by rw [HL.out]; exact hlt
      obtain ⟨a, p, rfl, hp, -, h0, h1, h2, h3⟩ := (HA.out.below HB.out).at hlt'
      have hkp : l.take (k + 1) = l.take k ++ [p] := by rw [List.take_add_one, hp]; rfl
      cases hm : mayB p with
      | true =>
        have hmm := mayB_iff.1 hm
        have HD2 := Lib.hid (show (l.take (k + 1)).all mayB = true by rw [hkp, List.all_append, HD.out]; simp [hm])
        have q1 : ¬ (p.wgt : Int) < 1 := by omega
        have q2 : ¬ 2147483647 < (p.wgt : Int) := by omega
        clear hp hlt' h3 hkp hm hmm h0 h1
        go_wp2
        go_roundw
        case rel => exact ⟨k + 1, by omega, by first | rfl | (congr 1), HD2, HB⟩
        case measure => simp [intOf]; omega
      | false =>
        have hmm : ¬ (1 ≤ p.wgt ∧ p.wgt ≤ 2147483647) := fun h => by rw [mayB_iff.2 h] at hm; cases hm
        have hf : r = false := by
          rw [HRR.out, Bool.eq_false_iff]
          intro hall
          have := List.all_eq_true.1 hall p (List.mem_of_getElem? hp)
          rw [hm] at this
          cases this
        subst hf
        have q : (p.wgt : Int) < 1 ∨ (¬ (p.wgt : Int) < 1 ∧ 2147483647 < (p.wgt : Int)) := by omega
        clear hp hlt' h3 hkp hm hmm h0 h1
        rcases q with q1 | ⟨q1, q2⟩
        all_goals
          go_wp2
          go_ret
          exact ⟨rfl, HB.out⟩
    · have hrt : r = true := by
        have := HD.out
        rw [List.take_of_length_le (by rw [HL.out]; omega)] at this
        rw [HRR.out, this]
      subst hrt
      go_wp2
      go_ret
      exact ⟨rfl, HB.out⟩
end Go.Proofs.YtbedepnmgnlijaaDoor
