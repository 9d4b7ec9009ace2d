/- Whether arcs are neighbours, the document's. -/
import Derived.Test.YtoflbfkmkalgcaaSumA
import Derived.RegionTactic
namespace Go.Proofs.Ytoflbfkmkalgcaa
open Go.RowKit Me Va

theorem least_prev {l : List ArcD} {j : Nat} {q : ArcD} (h : l[j]? = some q) : leastOf (l.take (j + 1)) = q.to + 1 := leastOf_take h
set_option maxRecDepth 100000 in
set_option maxHeartbeats 1000000 in
theorem refmay_any (L : Option Addr) (n c : Nat) (l : List ArcD) (w : World) (hl : l.length = n) (hn : n ≤ 4294967296) (hr : Arcs w w.heap.size L l) :
    Calls Try.prog 18 #[.slice L n c] w fun e w' => e = .returned (.bool (may l)) ∧ Below w.heap.size w w' := by
  have HL := Lib.hid hl
  have HR := Lib.hid hr
  clear hl hr
  go_enter Try.func18, Try.ntmps18
  go_wp2
  go_loopw [6] (fun i wr => ∃ k : Nat, k ≤ n ∧ i = .int .i64 k ∧ Hid (Up l k (leastOf (l.take k))) ∧ Hid (Below w.heap.size w wr)) (fun i _ => n - (intOf i).toNat)
  case atStart => exact ⟨0, Nat.zero_le _, rfl, Lib.hid (up_start l), Lib.hid (Below.refl _ _)⟩
  case round =>
    obtain ⟨k, hk, rfl, HE, HB⟩ := hrel
    have hsz := HB.out.size
    by_cases hlt : k < n
    · have hlt' : k < l.length := by rw [HL.out]; exact hlt
      obtain ⟨a, p, rfl, hp, ha, h0, h1, h2, h3⟩ := (HR.out.below HB.out).at hlt'
      have HP := Lib.hid hp
      clear hp hlt'
      by_cases hw : p.weight = 0
      · have d2 : decide ((p.weight : Int) < 1) = true := by simp; omega
        have HM := Lib.hid (up_no HE.out HP.out (.inr hw))
        clear hw
        go_wp2
        go_region
        all_goals
          go_wp2
          go_ret
          exact ⟨ret_bool HM.out.symm, HB.out.drew⟩
      · have d2 : decide ((p.weight : Int) < 1) = false := by simp; omega
        by_cases hk0 : k = 0
        · have d3 : decide ((0 : Int) < (k : Int)) = false := by simp; omega
          have HN := Lib.hid (show Up l (k + 1) (leastOf (l.take (k + 1))) by
            rw [leastOf_take HP.out]
            exact up_next HE.out HP.out (by rw [hk0]; simp [leastOf_nil]) hw)
          have hk1 : ¬ 0 < k := by omega
          clear hw hk0
          go_wp2
          go_region
          all_goals
            go_wp2
            go_roundw
            case rel => exact ⟨k + 1, by omega, by go_num, HN, Lib.hid HB.out.drew⟩
            case measure => simp [intOf]; omega
        · obtain ⟨j, hj⟩ : ∃ j, k = j + 1 := ⟨k - 1, by omega⟩
          have hjl : j < l.length := by rw [HL.out]; omega
          obtain ⟨a', q, e, hq, -, g0, -, g2, -⟩ := (HR.out.below HB.out).at hjl
          injection e with e
          subst e
          have hle := least_prev hq
          rw [← hj] at hle
          have hkj : (k : Int) - 1 = (j : Int) := by omega
          have hjn : j < n := by omega
          have hk1 : 0 < k := by omega
          have d3 : decide ((0 : Int) < (k : Int)) = true := by simp; omega
          clear hq hjl hj
          by_cases hto : p.to ≤ q.to
          · have d1 : decide ((p.to : Int) ≤ (q.to : Int)) = true := by simp; omega
            have HM := Lib.hid (up_no HE.out HP.out (.inl (by rw [hle]; omega)))
            clear hw hle
            go_wp2
            go_region
            all_goals
              go_wp2
              go_ret
              exact ⟨ret_bool HM.out.symm, HB.out.drew⟩
          · have d1 : decide ((p.to : Int) ≤ (q.to : Int)) = false := by simp; omega
            have HN := Lib.hid (show Up l (k + 1) (leastOf (l.take (k + 1))) by
              rw [leastOf_take HP.out]
              exact up_next HE.out HP.out (by rw [hle]; omega) hw)
            clear hw hle
            go_wp2
            go_region
            all_goals
              go_wp2
              go_roundw
              case rel => exact ⟨k + 1, by omega, by go_num, HN, Lib.hid HB.out.drew⟩
              case measure => simp [intOf]; omega
    · have HU := Lib.hid (up_all HE.out (by rw [HL.out]; omega))
      go_wp2_with fail
      refine (refsum_any L n c l wr HL.out hn ((HR.out.below HB.out).more hsz)).mono ?_
      rintro e w1 ⟨rfl, rfl⟩
      have hmay : may l = decide (sumOf l ≤ 2147483647) := by unfold may; rw [HU.out]; rfl
      have HM := Lib.hid hmay
      clear hmay
      go_wp2
      go_ret
      exact ⟨by rw [HM.out]; simp; try omega, HB.out⟩
end Go.Proofs.Ytoflbfkmkalgcaa
