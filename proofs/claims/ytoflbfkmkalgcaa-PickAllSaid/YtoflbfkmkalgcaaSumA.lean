/- The sum of weights, and whether arcs are neighbours: the program's and the document's. -/
import Derived.Test.YtoflbfkmkalgcaaGap
import Derived.Deep.RegionHeld3
namespace Go.Proofs.Ytoflbfkmkalgcaa
open Go.RowKit Me Va

theorem sum_fits {l : List ArcD} (hn : l.length ≤ 4294967296) (hf : ∀ p ∈ l, p.fits) (k : Nat) : sumOf (l.take k) ≤ 18446744069414584320 := by
  have h1 := sumOf_take_le l k
  have h2 := sumOf_le hf
  have h3 : l.length * 4294967295 ≤ 4294967296 * 4294967295 := Nat.mul_le_mul_right _ hn
  omega
set_option maxRecDepth 100000 in
set_option maxHeartbeats 400000 in
theorem sum_any (L : Option Addr) (n c : Nat) (l : List ArcD) (w : World) (hl : l.length = n) (hn : n ≤ 4294967296) (hr : Arcs w w.heap.size L l) :
    Calls Try.prog 32 #[.slice L n c] w fun e w' => e = .returned (.int .u64 (sumOf l : Int)) ∧ Below w.heap.size w w' := by
  have HS := Lib.hid (sum_fits (l := l) (by omega) hr.2)
  have HL := Lib.hid hl
  have HR := Lib.hid hr
  clear hl hr
  go_enter Try.func32, Try.ntmps32
  go_wp2
  go_loopw [3, 8] (fun x i wr => ∃ k : Nat, k ≤ n ∧ i = .int .i64 k ∧ (∃ s : Nat, x = .int .u64 (s : Int) ∧ Hid (s = sumOf (l.take k))) ∧ Hid (Below w.heap.size w wr)) (fun _ i _ => n - (intOf i).toNat)
  case atStart => exact ⟨0, Nat.zero_le _, rfl, ⟨0, rfl, Lib.hid rfl⟩, Lib.hid (Below.refl _ _)⟩
  case round =>
    obtain ⟨k, hk, rfl, ⟨s, rfl, HE⟩, HB⟩ := hrel
    by_cases hlt : k < n
    · have hlt' : k < l.length := by rw [HL.out]; exact hlt
      obtain ⟨a, p, rfl, hp, ha, h0, h1, h2, h3⟩ := (HR.out.below HB.out).at hlt'
      have hs := HS.out (k + 1)
      have HT := Lib.hid (sumOf_take hp)
      rw [HT.out, ← HE.out] at hs
      clear hp hlt'
      go_wp2
      go_roundw
      case rel => exact ⟨k + 1, by omega, by go_num, ⟨s + p.weight, by go_num, Lib.hid (by rw [HT.out, HE.out])⟩, Lib.hid (HB.out.alloc HB.out.size _)⟩
      case measure => simp [intOf]; omega
    · have HE2 := Lib.hid (show s = sumOf l by rw [HE.out, List.take_of_length_le (by rw [HL.out]; omega)])
      go_wp2
      go_ret
      exact ⟨ret_int (by rw [HE2.out]), HB.out⟩
set_option maxRecDepth 100000 in
set_option maxHeartbeats 400000 in
theorem refsum_any (L : Option Addr) (n c : Nat) (l : List ArcD) (w : World) (hl : l.length = n) (hn : n ≤ 4294967296) (hr : Arcs w w.heap.size L l) :
    Calls Try.prog 19 #[.slice L n c] w fun e w' => e = .returned (.int .u64 (sumOf l : Int)) ∧ w = w' := by
  have HS := Lib.hid (sum_fits (l := l) (by omega) hr.2)
  have HL := Lib.hid hl
  have HR := Lib.hid hr
  clear hl hr
  go_enter Try.func19, Try.ntmps19
  go_wp2
  go_loop [3, 7] (fun x i => ∃ k : Nat, k ≤ n ∧ i = .int .i64 k ∧ (∃ s : Nat, x = .int .u64 (s : Int) ∧ Hid (s = sumOf (l.take k)))) (fun _ i => n - (intOf i).toNat)
  case atStart => exact ⟨0, Nat.zero_le _, rfl, ⟨0, rfl, Lib.hid rfl⟩⟩
  case round =>
    obtain ⟨k, hk, rfl, ⟨s, rfl, HE⟩⟩ := hrel
    by_cases hlt : k < n
    · have hlt' : k < l.length := by rw [HL.out]; exact hlt
      obtain ⟨a, p, rfl, hp, ha, h0, h1, h2, h3⟩ := HR.out.at hlt'
      have hs := HS.out (k + 1)
      have HT := Lib.hid (sumOf_take hp)
      rw [HT.out, ← HE.out] at hs
      clear hp hlt'
      go_wp2
      go_round
      case rel => exact ⟨k + 1, by omega, by go_num, ⟨s + p.weight, by go_num, Lib.hid (by rw [HT.out, HE.out])⟩⟩
      case measure => simp [intOf]; omega
    · have HE2 := Lib.hid (show s = sumOf l by rw [HE.out, List.take_of_length_le (by rw [HL.out]; omega)])
      go_wp2
      go_ret
      exact ⟨ret_int (by rw [HE2.out]), rfl⟩
theorem behind_any (to weight : Nat) (w : World) (ht : to < 4294967296) :
    Calls Try.prog 40 #[.agg #[.int .u32 (to : Int), .int .u32 (weight : Int)]] w fun e w' => e = .returned (.int .u64 ((to + 1 : Nat) : Int)) ∧ Below w.heap.size w w' := by
  go_enter Try.func40, Try.ntmps40
  go_wp2
  go_ret
  exact ⟨ret_int (by omega), (Below.refl _ _).alloc (Nat.le_refl _) _⟩
/-- Up to here they rise. -/
def Up (l : List ArcD) (k least : Nat) : Prop := rises 0 (l.take k) = true ∧ least = leastOf (l.take k)
theorem up_start (l : List ArcD) : Up l 0 0 := ⟨rfl, rfl⟩
theorem up_next {l : List ArcD} {k least : Nat} {p : ArcD} (h : Up l k least) (hp : l[k]? = some p) (h1 : ¬ p.to < least) (h2 : ¬ p.weight = 0) : Up l (k + 1) (p.to + 1) := by
  refine ⟨?_, (leastOf_take hp).symm⟩
  rw [rises_take hp, h.1, ← h.2]
  simp
  omega
theorem up_no {l : List ArcD} {k least : Nat} {p : ArcD} (h : Up l k least) (hp : l[k]? = some p) (h1 : p.to < least ∨ p.weight = 0) : may l = false := by
  have : rises 0 (l.take (k + 1)) = false := by
    rw [rises_take hp, h.1, ← h.2]
    simp
    omega
  unfold may
  rw [rises_front this]
  rfl
theorem up_all {l : List ArcD} {k least : Nat} (h : Up l k least) (hk : l.length ≤ k) : rises 0 l = true := by
  have := h.1
  rwa [List.take_of_length_le hk] at this
set_option maxRecDepth 100000 in
set_option maxHeartbeats 400000 in
theorem may_any (L : Option Addr) (n c : Nat) (l : List ArcD) (w : World) (hl : l.length = n) (hn : n ≤ 4294967296) (hr : Arcs w w.heap.size L l) :
    Calls Try.prog 34 #[.slice L n c] w fun e w' => e = .returned (.bool (may l)) ∧ Below w.heap.size w w' := by
  have HL := Lib.hid hl
  have HR := Lib.hid hr
  clear hl hr
  go_enter Try.func34, Try.ntmps34
  go_wp2
  go_loopw [3, 8] (fun x i wr => ∃ k : Nat, k ≤ n ∧ i = .int .i64 k ∧ (∃ s : Nat, s ≤ 4294967296 ∧ x = .int .u64 (s : Int) ∧ Hid (Up l k s)) ∧ Hid (Below w.heap.size w wr)) (fun _ i _ => n - (intOf i).toNat)
  case atStart => exact ⟨0, Nat.zero_le _, rfl, ⟨0, by omega, rfl, Lib.hid (up_start l)⟩, Lib.hid (Below.refl _ _)⟩
  case round =>
    obtain ⟨k, hk, rfl, ⟨s, hs, rfl, HE⟩, HB⟩ := hrel
    have hsz := HB.out.size
    by_cases hlt : k < n
    · have hlt' : k < l.length := by rw [HL.out]; exact hlt
      obtain ⟨a, p, rfl, hp, ha, h0, h1, h2, h3⟩ := (HR.out.below HB.out).at hlt'
      have HP := Lib.hid hp
      clear hp hlt'
      by_cases hto : p.to < s
      · have d1 : decide ((p.to : Int) < (s : Int)) = true := by simp; omega
        have HM := Lib.hid (up_no HE.out HP.out (.inl hto))
        go_wp2
        go_ret
        exact ⟨ret_bool HM.out.symm, HB.out.alloc hsz _⟩
      · have d1 : decide ((p.to : Int) < (s : Int)) = false := by simp; omega
        by_cases hw : p.weight = 0
        · have d2 : ((p.weight : Int) == 0) = true := by rw [beq_iff_eq]; omega
          have HM := Lib.hid (up_no HE.out HP.out (.inr hw))
          clear hw
          go_wp2
          go_ret
          exact ⟨ret_bool HM.out.symm, HB.out.alloc hsz _⟩
        · have d2 : ((p.weight : Int) == 0) = false := by rw [beq_eq_false_iff_ne]; omega
          have HN := Lib.hid (up_next HE.out HP.out hto hw)
          clear hw
          go_wp2_with fail
          refine (behind_any p.to p.weight _ h2).mono ?_
          rintro e w1 ⟨rfl, hb1⟩
          have HB1 := Lib.hid ((HB.out.alloc hsz _).trans (hb1.mono (by simp; omega)))
          clear hb1
          go_wp2
          go_roundw
          case rel => exact ⟨k + 1, by omega, by go_num, ⟨p.to + 1, by omega, by go_num, HN⟩, HB1⟩
          case measure => simp [intOf]; omega
    · have HU := Lib.hid (up_all HE.out (by rw [HL.out]; omega))
      go_wp2_with fail
      refine (sum_any L n c l wr HL.out hn ((HR.out.below HB.out).more hsz)).mono ?_
      rintro e w1 ⟨rfl, hb1⟩
      have HB1 := Lib.hid (HB.out.trans (hb1.mono hsz))
      clear hb1
      have hmay : may l = decide (sumOf l ≤ 2147483647) := by unfold may; rw [HU.out]; rfl
      have HM := Lib.hid hmay
      clear hmay
      go_wp2
      go_ret
      exact ⟨by rw [HM.out]; simp; try omega, HB1.out⟩
end Go.Proofs.Ytoflbfkmkalgcaa
