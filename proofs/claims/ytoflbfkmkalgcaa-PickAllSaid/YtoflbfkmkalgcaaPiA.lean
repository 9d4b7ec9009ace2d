/- How many draws there are; intervals. -/
import Derived.Test.YtoflbfkmkalgcaaPiP
namespace Go.Proofs.Ytoflbfkmkalgcaa
open Go.RowKit Me Va Al

theorem Arcs.take {w : World} {B : Nat} {L : Option Addr} {l : List ArcD} (h : Arcs w B L l) (k : Nat) : Arcs w B L (l.take k) := by
  refine ⟨fun h0 => ?_, fun p hp => h.2 p (List.mem_of_mem_take hp)⟩
  have e : arcCells l = arcCells (l.take k) ++ arcCells (l.drop k) := by rw [← arcCells_append, List.take_append_drop]
  obtain ⟨a, ea, hb, hc⟩ := h.1 (by rw [e, List.length_append]; omega)
  refine ⟨a, ea, hb, fun i v hv => hc i v ?_⟩
  rw [e, List.getElem?_append_left (List.getElem?_eq_some_iff.1 hv).1]
  exact hv
theorem ivl_of {l : List ArcD} {y : Nat} (h : y < l.length * sumOf l) : ∃ i, Ivl l y i := by
  obtain ⟨i, hi, h1, h2⟩ := Al.first_of (p := fun k => y < strt l (k + 1)) (n := l.length) ⟨l.length - 1, by
    rcases Nat.eq_zero_or_pos l.length with e | e
    · rw [e] at h; omega
    · omega, by
    rcases Nat.eq_zero_or_pos l.length with e | e
    · rw [e] at h; omega
    · show y < strt l (l.length - 1 + 1)
      rw [Nat.sub_add_cancel e, strt_all]; exact h⟩
  refine ⟨i, hi, ?_, h1⟩
  cases i with
  | zero => rw [strt_zero]; omega
  | succ j => have := h2 j (by omega); omega
set_option maxRecDepth 100000 in
theorem draws_any (L : Option Addr) (n c x y : Nat) (w : World) (hn : n ≤ 1000000) (hx : x < 18446744073709551616) (hy : y = n * x) (hy2 : y < 18446744073709551616) :
    Calls Try.prog 33 #[.slice L n c, .int .u64 (x : Int)] w fun e w' => e = .returned (.int .u64 (y : Int)) ∧ w' = w := by
  have e1 : (n : Int) * (x : Int) = (y : Int) := by rw [hy]; exact (Int.natCast_mul _ _).symm
  have v1 : IntKind.u64.wrap (n : Int) = (n : Int) := IntWalk.u64_in _ (by omega)
  clear hy
  go_enter Try.func33, Try.ntmps33
  go_wp2
  go_ret
  exact ⟨rfl, rfl⟩
set_option maxRecDepth 100000 in
theorem ptotal_any (L : Option Addr) (n c : Nat) (l : List ArcD) (w : World) (hl : l.length = n) (hn : n ≤ 1000000) (hr : Arcs w w.heap.size L l) :
    Calls Try.prog 17 #[.slice L n c] w fun e w' => e = .returned (.int .u64 (totalOf l : Int)) ∧ Below w.heap.size w w' := by
  have HM := Lib.hid (may_any L n c l w hl (by omega) hr)
  obtain ⟨m, hm⟩ : ∃ m, m = may l := ⟨_, rfl⟩
  rw [← hm] at HM
  cases m with
  | false =>
    have FIN := Lib.hid (show totalOf l = 0 by unfold totalOf good; rw [← hm, Bool.and_false]; rfl)
    clear hl hr hm
    go_enter Try.func17, Try.ntmps17
    go_wp2_with fail
    refine HM.out.mono ?_
    rintro e w1 ⟨rfl, hb1⟩
    go_wp2
    go_ret
    exact ⟨ret_int (by rw [FIN.out]; rfl), hb1⟩
  | true =>
    have hsm := may_sum hm.symm
    obtain ⟨S, hS⟩ : ∃ S, S = sumOf l := ⟨_, rfl⟩
    obtain ⟨y, hy⟩ : ∃ y, y = n * S := ⟨_, rfl⟩
    rw [← hS] at hsm
    have hy2 : y ≤ 2147483647000000 := by
      have : n * S ≤ 1000000 * 2147483647 := Nat.mul_le_mul hn hsm
      omega
    have HSM := Lib.hid (show ∀ W, Below w.heap.size w W → Calls Try.prog 32 #[.slice L n c] W (fun e W' => e = .returned (.int .u64 (S : Int)) ∧ Below W.heap.size W W') from fun W hW => by rw [hS]; exact sum_any L n c l W hl (by omega) ((hr.below hW).more hW.size))
    have HD := Lib.hid (fun W => draws_any L n c S y W hn (by omega) hy (by omega))
    have FIN := Lib.hid (show totalOf l = y by
      unfold totalOf good
      rw [← hm, Bool.and_true]
      by_cases h0 : 0 < l.length
      · rw [if_pos (by simpa using h0), hl, hy, hS]
      · rw [if_neg (by simpa using h0), hy, ← hl]
        have : l.length = 0 := by omega
        rw [this, Nat.zero_mul])
    clear hl hr hm hS hy
    go_enter Try.func17, Try.ntmps17
    go_wp2_with fail
    refine HM.out.mono ?_
    rintro e w1 ⟨rfl, hb1⟩
    have HB1 := Lib.hid hb1
    clear hb1
    go_wp2_with fail
    refine (HSM.out w1 HB1.out).mono ?_
    rintro e w2 ⟨rfl, hb2⟩
    have HB2 := Lib.hid (HB1.out.trans (hb2.mono HB1.out.size))
    clear hb2
    go_wp2_with fail
    refine (HD.out w2).mono ?_
    rintro e w3 ⟨rfl, rfl⟩
    go_wp2
    go_ret
    exact ⟨ret_int (by rw [FIN.out]), HB2.out⟩
set_option maxRecDepth 100000 in
theorem start_any (L : Option Addr) (n c k : Nat) (l : List ArcD) (w : World) (hl : l.length = n) (hn : n ≤ 1000000) (hc : n ≤ c) (hk : k ≤ n) (hS : sumOf l ≤ 2147483647) (hr : Arcs w w.heap.size L l) :
    Calls Try.prog 37 #[.slice L n c, .int .i64 (k : Int)] w fun e w' => e = .returned (.int .u64 (strt l k : Int)) ∧ Below w.heap.size w w' := by
  have hsm := sumOf_take_le l k
  obtain ⟨S, hSk⟩ : ∃ S, S = sumOf (l.take k) := ⟨_, rfl⟩
  obtain ⟨y, hy⟩ : ∃ y, y = n * S := ⟨_, rfl⟩
  rw [← hSk] at hsm
  have hy2 : y ≤ 2147483647000000 := by
    have : n * S ≤ 1000000 * 2147483647 := Nat.mul_le_mul hn (by omega)
    omega
  have HSM := Lib.hid (sum_any L k c (l.take k) w (by rw [List.length_take, hl]; omega) (by omega) (hr.take k))
  rw [← hSk] at HSM
  have HD := Lib.hid (fun W => draws_any L n c S y W hn (by omega) hy (by omega))
  have FIN := Lib.hid (show strt l k = y by unfold strt; rw [hl, hy, hSk])
  have hkc : (k : Int) ≤ (c : Int) := by omega
  clear hl hr hS hsm hSk hy
  go_enter Try.func37, Try.ntmps37
  go_wp2_with fail
  refine HSM.out.mono ?_
  rintro e w1 ⟨rfl, hb1⟩
  have HB1 := Lib.hid hb1
  clear hb1
  go_wp2_with fail
  refine (HD.out w1).mono ?_
  rintro e w2 ⟨rfl, rfl⟩
  go_wp2
  go_ret
  exact ⟨ret_int (by rw [FIN.out]), HB1.out⟩
set_option maxRecDepth 100000 in
theorem reftotal_any (L : Option Addr) (n c : Nat) (l : List ArcD) (w : World) (hl : l.length = n) (hn : n ≤ 1000000) (hr : Arcs w w.heap.size L l) :
    Calls Try.prog 11 #[.slice L n c] w fun e w' => e = .returned (.int .u64 (totalOf l : Int)) ∧ Below w.heap.size w w' := by
  have HM := Lib.hid (neigh_any L n c l w hl (by omega) hr)
  obtain ⟨m, hm⟩ : ∃ m, m = good l := ⟨_, rfl⟩
  rw [← hm] at HM
  cases m with
  | false =>
    have FIN := Lib.hid (show totalOf l = 0 by unfold totalOf; rw [← hm]; rfl)
    clear hl hr hm
    go_enter Try.func11, Try.ntmps11
    go_wp2_with fail
    refine HM.out.mono ?_
    rintro e w1 ⟨rfl, hb1⟩
    go_wp2
    go_ret
    exact ⟨ret_int (by rw [FIN.out]; rfl), hb1⟩
  | true =>
    have hsm := may_sum (good_may hm.symm).2
    obtain ⟨S, hS⟩ : ∃ S, S = sumOf l := ⟨_, rfl⟩
    obtain ⟨y, hy⟩ : ∃ y, y = n * S := ⟨_, rfl⟩
    rw [← hS] at hsm
    have hy2 : y ≤ 2147483647000000 := by
      have : n * S ≤ 1000000 * 2147483647 := Nat.mul_le_mul hn hsm
      omega
    have e1 : (S : Int) * (n : Int) = (y : Int) := by rw [hy, Nat.mul_comm]; exact (Int.natCast_mul _ _).symm
    have v1 : IntKind.u64.wrap (n : Int) = (n : Int) := IntWalk.u64_in _ (by omega)
    have HSM := Lib.hid (show ∀ W, Below w.heap.size w W → Calls Try.prog 19 #[.slice L n c] W (fun e W' => e = .returned (.int .u64 (S : Int)) ∧ W = W') from fun W hW => by rw [hS]; exact refsum_any L n c l W hl (by omega) ((hr.below hW).more hW.size))
    have FIN := Lib.hid (show totalOf l = y by rw [total_good hm.symm, hl, hy, hS])
    clear hl hr hm hS hy
    go_enter Try.func11, Try.ntmps11
    go_wp2_with fail
    refine HM.out.mono ?_
    rintro e w1 ⟨rfl, hb1⟩
    have HB1 := Lib.hid hb1
    clear hb1
    go_wp2_with fail
    refine (HSM.out w1 HB1.out).mono ?_
    rintro e w2 ⟨rfl, rfl⟩
    go_wp2
    go_ret
    exact ⟨ret_int (by rw [FIN.out]), HB1.out⟩
set_option maxRecDepth 100000 in
set_option maxHeartbeats 1000000 in
theorem ivl_yes (L : Option Addr) (n c y i : Nat) (l : List ArcD) (w : World) (hl : l.length = n) (hn : n ≤ 1000000) (hg : good l = true) (hi : Ivl l y i) (hr : Arcs w w.heap.size L l) :
    Calls Try.prog 16 #[.slice L n c, .int .u64 (y : Int)] w fun e w' => e = .returned (.tuple #[.int .i64 (i : Int), .bool true]) ∧ Below w.heap.size w w' := by
  have hyt : y < totalOf l := by rw [total_good hg]; exact hi.below
  have htl := total_lt (l := l) (by omega)
  have HT := Lib.hid (ptotal_any L n c l w hl hn hr)
  obtain ⟨t, ht⟩ : ∃ t, t = totalOf l := ⟨_, rfl⟩
  rw [← ht] at HT hyt htl
  have ht0 : ((t : Int) == 0) = false := by rw [beq_eq_false_iff_ne]; omega
  have HL := Lib.hid hl
  have HR := Lib.hid hr
  have HI := Lib.hid hi
  have hin : i < n := by rw [← hl]; exact hi.lt
  clear hl hr hg hi ht
  go_enter Try.func16, Try.ntmps16
  go_wp2_with fail
  refine HT.out.mono ?_
  rintro e w1 ⟨rfl, hb1⟩
  have HB1 := Lib.hid hb1
  clear hb1 HT
  go_wp2
  go_loopw [1, 14] (fun v i' wr => ∃ k z : Nat, k ≤ i ∧ i' = .int .i64 k ∧ v = .int .u64 (z : Int) ∧ z ≤ y ∧ Hid (strt l k + z = y) ∧ Hid (Below w.heap.size w wr)) (fun _ i' _ => n - (intOf i').toNat)
  case atStart => exact ⟨0, y, Nat.zero_le _, rfl, rfl, Nat.le_refl _, Lib.hid (by rw [strt_zero]; omega), HB1⟩
  case round =>
    obtain ⟨k, z, hk, rfl, rfl, hz, HE, HB⟩ := hrel
    have hlt : k < n := by omega
    have hlt2 : (k : Int) < (n : Int) := by omega
    have hlt' : k < l.length := by rw [HL.out]; exact hlt
    obtain ⟨b, p, rfl, hp, ha, h0, h1, h2, h3⟩ := (HR.out.below HB.out).at hlt'
    obtain ⟨x, hx⟩ : ∃ x, x = n * p.weight := ⟨_, rfl⟩
    have hxm : x ≤ 4294967295000000 := by
      have : n * p.weight ≤ 1000000 * 4294967295 := Nat.mul_le_mul hn (by omega)
      omega
    have HN := Lib.hid (show strt l (k + 1) = strt l k + x by rw [strt_next hp, HL.out, hx])
    have HD := Lib.hid (fun W => draws_any (some b) n c p.weight x W hn (by omega) hx (by omega))
    have v2 : IntKind.u64.wrap (p.weight : Int) = (p.weight : Int) := IntWalk.u64_in _ (by omega)
    have HB2 := Lib.hid (HB.out.alloc HB.out.size (.cells #[.int .u32 (p.to : Int), .int .u32 (p.weight : Int)] 44))
    clear hp hlt' hx
    by_cases hki : k = i
    · subst hki
      have hzx : z < x := by have := HI.out.hi; have := HN.out; have := HE.out; omega
      have hzx2 : (z : Int) < (x : Int) := by omega
      go_wp2_with fail
      refine (HD.out _).mono ?_
      rintro e w3 ⟨rfl, rfl⟩
      go_wp2
      go_ret2
      exact ⟨rfl, HB2.out⟩
    · have hxz : x ≤ z := by
        have := strt_mono l (show k + 1 ≤ i by omega)
        have := HI.out.lo
        have := HN.out
        have := HE.out
        omega
      have hzx2 : ¬ (z : Int) < (x : Int) := by omega
      obtain ⟨z2, hz2⟩ : ∃ z2, z2 = z - x := ⟨_, rfl⟩
      have hzi : (z : Int) - (x : Int) = (z2 : Int) := by omega
      have HE2 := Lib.hid (show strt l (k + 1) + z2 = y by rw [HN.out]; have := HE.out; omega)
      have hz2y : z2 ≤ y := by omega
      clear hz2
      go_wp2_with fail
      refine (HD.out _).mono ?_
      rintro e w3 ⟨rfl, rfl⟩
      go_wp2
      go_roundw
      case rel => exact ⟨k + 1, z2, by omega, by go_num, rfl, hz2y, HE2, HB2⟩
      case measure => simp [intOf]; omega
set_option maxRecDepth 100000 in
set_option maxHeartbeats 1000000 in
theorem ivl_no (L : Option Addr) (n c y : Nat) (l : List ArcD) (w : World) (hl : l.length = n) (hn : n ≤ 1000000) (hy : totalOf l ≤ y) (hy2 : y < 18446744073709551616) (hr : Arcs w w.heap.size L l) :
    Calls Try.prog 16 #[.slice L n c, .int .u64 (y : Int)] w fun e w' => e = .returned (.tuple #[.int .i64 0, .bool false]) ∧ Below w.heap.size w w' := by
  have HT := Lib.hid (ptotal_any L n c l w hl hn hr)
  obtain ⟨t, ht⟩ : ∃ t, t = totalOf l := ⟨_, rfl⟩
  have htl := total_lt (l := l) (by omega)
  rw [← ht] at HT hy htl
  by_cases h0 : t = 0
  · subst h0
    clear ht hl hr
    go_enter Try.func16, Try.ntmps16
    go_wp2_with fail
    refine HT.out.mono ?_
    rintro e w1 ⟨rfl, hb1⟩
    go_wp2
    go_ret2
    exact ⟨rfl, hb1⟩
  have ht0 : ((t : Int) == 0) = false := by rw [beq_eq_false_iff_ne]; omega
  have HG := Lib.hid (show t = n * sumOf l by rw [ht, total_good (total_pos.2 (by omega)), hl])
  have HL := Lib.hid hl
  have HR := Lib.hid hr
  clear hl hr ht
  go_enter Try.func16, Try.ntmps16
  go_wp2_with fail
  refine HT.out.mono ?_
  rintro e w1 ⟨rfl, hb1⟩
  have HB1 := Lib.hid hb1
  clear hb1 HT
  go_wp2
  go_loopw [1, 14] (fun v i' wr => ∃ k z : Nat, k ≤ n ∧ i' = .int .i64 k ∧ v = .int .u64 (z : Int) ∧ z ≤ y ∧ Hid (strt l k + z = y) ∧ Hid (Below w.heap.size w wr)) (fun _ i' _ => n - (intOf i').toNat)
  case atStart => exact ⟨0, y, Nat.zero_le _, rfl, rfl, Nat.le_refl _, Lib.hid (by rw [strt_zero]; omega), HB1⟩
  case round =>
    obtain ⟨k, z, hk, rfl, rfl, hz, HE, HB⟩ := hrel
    by_cases hlt : k < n
    · have hlt2 : (k : Int) < (n : Int) := by omega
      have hlt' : k < l.length := by rw [HL.out]; exact hlt
      obtain ⟨b, p, rfl, hp, ha, h0', h1, h2, h3⟩ := (HR.out.below HB.out).at hlt'
      obtain ⟨x, hx⟩ : ∃ x, x = n * p.weight := ⟨_, rfl⟩
      have hxm : x ≤ 4294967295000000 := by
        have : n * p.weight ≤ 1000000 * 4294967295 := Nat.mul_le_mul hn (by omega)
        omega
      have HN := Lib.hid (show strt l (k + 1) = strt l k + x by rw [strt_next hp, HL.out, hx])
      have HD := Lib.hid (fun W => draws_any (some b) n c p.weight x W hn (by omega) hx (by omega))
      have v2 : IntKind.u64.wrap (p.weight : Int) = (p.weight : Int) := IntWalk.u64_in _ (by omega)
      have HB2 := Lib.hid (HB.out.alloc HB.out.size (.cells #[.int .u32 (p.to : Int), .int .u32 (p.weight : Int)] 44))
      clear hp hlt' hx
      have hxz : x ≤ z := by
        have := strt_le l (k + 1)
        rw [HL.out, ← HG.out] at this
        have := HN.out
        have := HE.out
        omega
      have hzx2 : ¬ (z : Int) < (x : Int) := by omega
      obtain ⟨z2, hz2⟩ : ∃ z2, z2 = z - x := ⟨_, rfl⟩
      have hzi : (z : Int) - (x : Int) = (z2 : Int) := by omega
      have HE2 := Lib.hid (show strt l (k + 1) + z2 = y by rw [HN.out]; have := HE.out; omega)
      have hz2y : z2 ≤ y := by omega
      clear hz2
      go_wp2_with fail
      refine (HD.out _).mono ?_
      rintro e w3 ⟨rfl, rfl⟩
      go_wp2
      go_roundw
      case rel => exact ⟨k + 1, z2, by omega, by go_num, rfl, hz2y, HE2, HB2⟩
      case measure => simp [intOf]; omega
    · have hlt2 : ¬ (k : Int) < (n : Int) := by omega
      go_wp2
      go_ret2
      exact ⟨rfl, HB.out⟩
end Go.Proofs.Ytoflbfkmkalgcaa
