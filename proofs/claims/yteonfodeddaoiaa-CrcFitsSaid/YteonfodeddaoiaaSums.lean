/- CrcSums is proved: the sum of any bytes, in whatever rows, is the document's; for every input, no conditions. -/
import Derived.Test.YteonfodeddaoiaaAwake
import Derived.Deep.RegionHeld3
namespace Go.Proofs.Yteonfodeddaoiaa
open Go.RowKit Cr Me

/-- Bytes as an argument: a slice, nil or not. -/
theorem open_bytes {H : Type} {enc : TypeId × Value → H} {P : Program} {W : World} {b0 : Nat} {t e : TypeId} {v : Value} {d : DataW H} {ps : List MemPlace} (ht : P.underlying t = some (.slice e)) (he : P.underlying e = some (.int .u8)) (hc : P.cellsOf e = 1)
    (hv : Value.okWide P W .any b0 t v) (h : DataW.Trod enc P W 0 (fun _ => true) true t v d ps) :
    ∃ A n c l, v = .slice A n c ∧ l.length = n ∧ n ≤ c ∧ c ≤ 9223372036854775807 ∧ Rd W W.heap.size A l := by
  obtain ⟨A, n, c, rfl⟩ := WideShapes.okWide_slice ht hv
  obtain ⟨fuel, hf⟩ := h
  rcases ChangeShapes.open_ints ht he hc hf with ⟨hcs, hx⟩ | ⟨a, len, cap, zs, hcs, _, hl, hm, hz, hx, hcell, hwz⟩
  · simp [Value.cells] at hcs
    obtain ⟨rfl, rfl, rfl⟩ := hcs
    exact ⟨_, _, _, [], rfl, rfl, Nat.le_refl _, by omega, Rd.empty⟩
  · simp [Value.cells] at hcs
    obtain ⟨rfl, rfl, rfl⟩ := hcs
    simp only [if_true] at hz
    refine ⟨_, _, _, (zs.take n).map (fun z => UInt8.ofNat z.toNat), rfl, by simp; omega, hl, by unfold maxLen at hm; omega, fun hn => ?_⟩
    have hn' : 0 < n := by simp at hn; omega
    have h0 := hcell 0 (by omega)
    have hb := block_lt_of_cell h0
    rw [block_add] at hb
    refine ⟨a, rfl, hb, fun i u hu => ?_⟩
    rw [List.getElem?_map] at hu
    have hi : i < n := by
      rcases Nat.lt_or_ge i n with h | h
      · exact h
      · rw [List.getElem?_take, if_neg (by omega)] at hu; cases hu
    rw [List.getElem?_take, if_pos hi, List.getElem?_eq_getElem (by omega)] at hu
    injection hu with hu
    have hw := hwz zs[i] (List.getElem_mem _)
    have e1 : zs.getD i 0 = zs[i] := by rw [List.getD_eq_getElem?_getD, List.getElem?_eq_getElem (by omega)]; rfl
    rw [hcell i (by omega), e1, ← hu]
    simp [Lit.wf, IntKind.min, IntKind.max, IntKind.bits, IntKind.signed] at hw
    congr 2
    rw [UInt8.toNat_ofNat']
    omega
theorem cells_u8 : Try.prog.cellsOf 5 = 1 := by kernel_rfl

set_option maxHeartbeats 1000000 in
theorem sums_zero (A : Option Addr) (n c : Nat) (cut : Int) (l : List UInt8) (w : World) (hl : l.length = n) (hn : n ≤ 1000)
    (hr : Rd w w.heap.size A l) (hcut : cut ≤ 0) :
    Calls Try.prog 3 #[.slice A n c, .int .i64 cut] w fun e w' => e = .returned (.bool true) ∧ Below w.heap.size w w' := by
  have HL := Lib.hid hl
  have HR := Lib.hid hr
  have hcd : decide (0 < cut) = false := by simp; omega
  clear hcut
  have hp := Lib.hid (show Parts (w.alloc (.cells #[.slice A n c] 22)).drew (w.alloc (.cells #[.slice A n c] 22)).drew.heap.size (some ⟨w.heap.size, 0, none⟩) [l] from
    parts_one 22 hl (by omega) (Nat.le_refl _) hr rfl)
  have hb0 : Below w.heap.size w (w.alloc (.cells #[.slice A n c] 22)).drew := ((Below.refl _ _).alloc (Nat.le_refl _) _).drew
  have HB0 := Lib.hid hb0
  clear hl hr hb0
  go_enter Try.func3, Try.ntmps3
  go_wp2_with ((go_at_call 8; refine (ref_sum_any A n c l w w.heap.size HL.out (by omega) HR.out).mono ?_; rintro e w' ⟨rfl, rfl⟩))
  go_region_held3 (fun w' => Below w.heap.size w w') (first | assumption | exact (Below.refl _ _).drew | exact HB0.out | exact Below.alloc (by assumption) (Below.size (by assumption)) _)
    (first
     | ((with_reducible refine (sum_any (some ⟨w.heap.size, 0, none⟩) 1 1 [l] _ rfl (by omega) hp.out).mono ?_); rintro e w1 ⟨rfl, hb1'⟩; have hb1 := HB0.out.trans (hb1'.mono HB0.out.size); clear hb1')
     | ((with_reducible refine (sum_any (some ⟨w1.heap.size, 0, none⟩) 3 3 [([] : List UInt8), [], l] _ rfl (by omega) (parts_three (m := 0) (m' := n) (l := ([] : List UInt8)) (l' := l) 22 rfl (Nat.zero_le _) HL.out (by omega) hb1.size Rd.empty (HR.out.below hb1) rfl)).mono ?_)
        rintro e w2 ⟨rfl, hb2'⟩
        have hb2 := (hb1.alloc hb1.size _).trans (hb2'.mono (by have := hb1.size; simp; omega))
        have ef : crc [([] : List UInt8), [], l].flatten = crc l := by simp
        rw [ef]
        clear hb2' ef)
     | (go_at_call 7; refine (awake_any _).mono ?_; rintro e w3 ⟨rfl, hb3'⟩; have hb3 := hb2.trans (hb3'.mono hb2.size); clear hb3'))
  go_wp2
  go_ret
  exact ⟨rfl, hb3⟩
set_option maxHeartbeats 1000000 in
theorem sums_over (A : Option Addr) (n c : Nat) (cut : Int) (l : List UInt8) (w : World) (hl : l.length = n) (hn : n ≤ 1000)
    (hr : Rd w w.heap.size A l) (hcut : (n : Int) < cut) :
    Calls Try.prog 3 #[.slice A n c, .int .i64 cut] w fun e w' => e = .returned (.bool true) ∧ Below w.heap.size w w' := by
  have HL := Lib.hid hl
  have HR := Lib.hid hr
  have hcd : decide (0 < cut) = true := by simp; omega
  have hce : decide (cut ≤ (n : Int)) = false := by simp; omega
  clear hcut
  have hp := Lib.hid (show Parts (w.alloc (.cells #[.slice A n c] 22)).drew (w.alloc (.cells #[.slice A n c] 22)).drew.heap.size (some ⟨w.heap.size, 0, none⟩) [l] from
    parts_one 22 hl (by omega) (Nat.le_refl _) hr rfl)
  have hb0 : Below w.heap.size w (w.alloc (.cells #[.slice A n c] 22)).drew := ((Below.refl _ _).alloc (Nat.le_refl _) _).drew
  have HB0 := Lib.hid hb0
  clear hl hr hb0
  go_enter Try.func3, Try.ntmps3
  go_wp2_with ((go_at_call 8; refine (ref_sum_any A n c l w w.heap.size HL.out (by omega) HR.out).mono ?_; rintro e w' ⟨rfl, rfl⟩))
  go_region_held3 (fun w' => Below w.heap.size w w') (first | assumption | exact (Below.refl _ _).drew | exact HB0.out | exact Below.alloc (by assumption) (Below.size (by assumption)) _)
    (first
     | ((with_reducible refine (sum_any (some ⟨w.heap.size, 0, none⟩) 1 1 [l] _ rfl (by omega) hp.out).mono ?_); rintro e w1 ⟨rfl, hb1'⟩; have hb1 := HB0.out.trans (hb1'.mono HB0.out.size); clear hb1')
     | ((with_reducible refine (sum_any (some ⟨w1.heap.size, 0, none⟩) 3 3 [([] : List UInt8), [], l] _ rfl (by omega) (parts_three (m := 0) (m' := n) (l := ([] : List UInt8)) (l' := l) 22 rfl (Nat.zero_le _) HL.out (by omega) hb1.size Rd.empty (HR.out.below hb1) rfl)).mono ?_)
        rintro e w2 ⟨rfl, hb2'⟩
        have hb2 := (hb1.alloc hb1.size _).trans (hb2'.mono (by have := hb1.size; simp; omega))
        have ef : crc [([] : List UInt8), [], l].flatten = crc l := by simp
        rw [ef]
        clear hb2' ef)
     | (go_at_call 7; refine (awake_any _).mono ?_; rintro e w3 ⟨rfl, hb3'⟩; have hb3 := hb2.trans (hb3'.mono hb2.size); clear hb3'))
  go_wp2
  go_ret
  exact ⟨rfl, hb3⟩
set_option maxHeartbeats 1000000 in
theorem sums_room (a : Addr) (n c k : Nat) (l : List UInt8) (w : World) (hl : l.length = n) (hc : n ≤ c) (hc63 : c ≤ 9223372036854775807) (hn : n ≤ 1000) (hk0 : 0 < k) (hkn : k ≤ n)
    (hr : Rd w w.heap.size (some a) l) (hck : k < c) :
    Calls Try.prog 3 #[.slice (some a) n c, .int .i64 k] w fun e w' => e = .returned (.bool true) ∧ Below w.heap.size w w' := by
  have HL := Lib.hid hl
  have HR := Lib.hid hr
  have hcd : decide ((0 : Int) < (k : Int)) = true := by simp; omega
  have hce : decide ((k : Int) ≤ (n : Int)) = true := by simp; omega
  have i0 : (0 : Int) ≤ (k : Int) := by omega
  have i1 : (k : Int) ≤ (n : Int) := by omega
  have i2 : (k : Int) ≤ (c : Int) := by omega
  have hdr := hr.drop (k := k) (cap := c) (by omega)
  have HD := Lib.hid (show Rd w w.heap.size (if c = k then some a else some (a.add k)) (l.drop k) from hdr)
  clear hdr
  have hp := Lib.hid (show Parts (w.alloc (.cells #[.slice (some a) n c] 22)).drew (w.alloc (.cells #[.slice (some a) n c] 22)).drew.heap.size (some ⟨w.heap.size, 0, none⟩) [l] from
    parts_one 22 hl (by omega) (Nat.le_refl _) hr rfl)
  have hb0 : Below w.heap.size w (w.alloc (.cells #[.slice (some a) n c] 22)).drew := ((Below.refl _ _).alloc (Nat.le_refl _) _).drew
  have HB0 := Lib.hid hb0
  clear hl hr hb0
  go_enter Try.func3, Try.ntmps3
  go_wp2_with ((go_at_call 8; refine (ref_sum_any (some a) n c l w w.heap.size HL.out (by omega) HR.out).mono ?_; rintro e w' ⟨rfl, rfl⟩))
  go_region_held3 (fun w' => Below w.heap.size w w') (first | assumption | exact (Below.refl _ _).drew | exact HB0.out | exact Below.alloc (by assumption) (Below.size (by assumption)) _)
    (first
     | ((with_reducible refine (sum_any (some ⟨w.heap.size, 0, none⟩) 1 1 [l] _ rfl (by omega) hp.out).mono ?_); rintro e w1 ⟨rfl, hb1'⟩; have hb1 := HB0.out.trans (hb1'.mono HB0.out.size); clear hb1')
     | ((with_reducible refine (sum_any (some ⟨w1.heap.size, 0, none⟩) 3 3 [(l.take k), [], (l.drop k)] _ rfl (by omega) (parts_three (m := k) (m' := n - k) (l := (l.take k)) (l' := (l.drop k)) 22 (by rw [List.length_take, HL.out]; omega) (by omega) (by rw [List.length_drop, HL.out]) (by omega) hb1.size ((HR.out.below hb1).take k) (HD.out.below hb1) rfl)).mono ?_)
        rintro e w2 ⟨rfl, hb2'⟩
        have hb2 := (hb1.alloc hb1.size _).trans (hb2'.mono (by have := hb1.size; simp; omega))
        have ef : crc [(l.take k), [], (l.drop k)].flatten = crc l := by simp
        rw [ef]
        clear hb2' ef)
     | (go_at_call 7; refine (awake_any _).mono ?_; rintro e w3 ⟨rfl, hb3'⟩; have hb3 := hb2.trans (hb3'.mono hb2.size); clear hb3'))
  go_wp2
  go_ret
  exact ⟨rfl, hb3⟩
set_option maxHeartbeats 1000000 in
theorem sums_full (a : Addr) (n : Nat) (l : List UInt8) (w : World) (hl : l.length = n) (hn : n ≤ 1000) (hk0 : 0 < n)
    (hr : Rd w w.heap.size (some a) l) :
    Calls Try.prog 3 #[.slice (some a) n n, .int .i64 n] w fun e w' => e = .returned (.bool true) ∧ Below w.heap.size w w' := by
  have HL := Lib.hid hl
  have HR := Lib.hid hr
  have hcd : decide ((0 : Int) < (n : Int)) = true := by simp; omega
  have i0 : (0 : Int) ≤ (n : Int) := by omega
  have hp := Lib.hid (show Parts (w.alloc (.cells #[.slice (some a) n n] 22)).drew (w.alloc (.cells #[.slice (some a) n n] 22)).drew.heap.size (some ⟨w.heap.size, 0, none⟩) [l] from
    parts_one 22 hl (by omega) (Nat.le_refl _) hr rfl)
  have hb0 : Below w.heap.size w (w.alloc (.cells #[.slice (some a) n n] 22)).drew := ((Below.refl _ _).alloc (Nat.le_refl _) _).drew
  have HB0 := Lib.hid hb0
  clear hl hr hb0
  go_enter Try.func3, Try.ntmps3
  go_wp2_with ((go_at_call 8; refine (ref_sum_any (some a) n n l w w.heap.size HL.out (by omega) HR.out).mono ?_; rintro e w' ⟨rfl, rfl⟩))
  go_region_held3 (fun w' => Below w.heap.size w w') (first | assumption | exact (Below.refl _ _).drew | exact HB0.out | exact Below.alloc (by assumption) (Below.size (by assumption)) _)
    (first
     | ((with_reducible refine (sum_any (some ⟨w.heap.size, 0, none⟩) 1 1 [l] _ rfl (by omega) hp.out).mono ?_); rintro e w1 ⟨rfl, hb1'⟩; have hb1 := HB0.out.trans (hb1'.mono HB0.out.size); clear hb1')
     | ((with_reducible refine (sum_any (some ⟨w1.heap.size, 0, none⟩) 3 3 [l, [], ([] : List UInt8)] _ rfl (by omega) (parts_three (m := n) (m' := 0) (l := l) (l' := ([] : List UInt8)) 22 HL.out (by omega) rfl (Nat.zero_le _) hb1.size (HR.out.below hb1) Rd.empty rfl)).mono ?_)
        rintro e w2 ⟨rfl, hb2'⟩
        have hb2 := (hb1.alloc hb1.size _).trans (hb2'.mono (by have := hb1.size; simp; omega))
        have ef : crc [l, [], ([] : List UInt8)].flatten = crc l := by simp
        rw [ef]
        clear hb2' ef)
     | (go_at_call 7; refine (awake_any _).mono ?_; rintro e w3 ⟨rfl, hb3'⟩; have hb3 := hb2.trans (hb3'.mono hb2.size); clear hb3'))
  go_wp2
  go_ret
  exact ⟨rfl, hb3⟩
theorem sums_long (A : Option Addr) (n c : Nat) (cut : Int) (w : World) (hn : 1000 < n) :
    Calls Try.prog 3 #[.slice A n c, .int .i64 cut] w fun e w' => e = .returned (.bool true) ∧ Below w.heap.size w w' := by
  have h1 : decide ((1000 : Int) < (n : Int)) = true := by simp; omega
  go_enter Try.func3, Try.ntmps3
  go_wp2_with (go_at_call 7; refine (awake_any _).mono ?_; rintro e w1 ⟨rfl, hb⟩)
  go_ret
  exact ⟨rfl, hb⟩
/-- The law's walk, for whatever fits. -/
theorem sums_walk (A : Option Addr) (n c : Nat) (cut : Int) (l : List UInt8) (w : World) (hl : l.length = n) (hc : n ≤ c) (hc63 : c ≤ 9223372036854775807) (hr : Rd w w.heap.size A l) :
    Calls Try.prog 3 #[.slice A n c, .int .i64 cut] w fun e w' => e = .returned (.bool true) ∧ Below w.heap.size w w' := by
  by_cases hn : n ≤ 1000
  · by_cases h0 : cut ≤ 0
    · exact sums_zero A n c cut l w hl hn hr h0
    · by_cases h1 : (n : Int) < cut
      · exact sums_over A n c cut l w hl hn hr h1
      · obtain ⟨k, rfl⟩ := Int.eq_ofNat_of_zero_le (show 0 ≤ cut by omega)
        obtain ⟨a, rfl, -⟩ := hr (by omega)
        by_cases h2 : k < c
        · exact sums_room a n c k l w hl hc hc63 hn (by omega) (by omega) hr h2
        · have e1 : c = n := by omega
          have e2 : k = n := by omega
          subst e1 e2
          exact sums_full a k l w hl hn (by omega) hr
  · exact sums_long A n c cut w (by omega)

theorem own : ownKnob Try.prog.godebug = none := by kernel_rfl
theorem laidOut : laidOutB Try.prog = true := by kernel_rfl
open Go.ChangeShapes Go.WideShapes Go.ChangeAt Go.Joins
set_option maxRecDepth 100000 in
theorem crcSums_lifted (os : Os) (started : os.Started) (H : Type) (enc : TypeId × Value → H) :
    ReturnsInHanded {} Try.checked os 3 .any (Rows.crcSumsSpec.pre6 enc Try.prog Try.f3 Rows.crcSumsRow.domain false) (Rows.crcSumsSpec.post enc Try.prog Try.f3 false true false false) := by
  refine returnsInHanded_of_change (C := Try.checked) own started (by kernel_rfl) Try.func3
    (ChangeSpec.witness6 (enc := enc) (C := Try.checked) false ⟨#[], #[.slice none 0 0, .int .i64 0], []⟩ 8 (by kernel_rfl) (by kernel_rfl) (by kernel_rfl) (by kernel_rfl)) ?_
  intro W base args ds gs before hval0 hW hcnd _
  have hval : ∀ (j : Nat) t v, Try.f3.params[j]? = some t → args[j]? = some v → Value.okWide Try.prog W .any base t v := hval0
  have hW' := hW
  obtain ⟨p, q, hA0, hV, rfl, hfz, hnd⟩ := hW
  have hA : DataW.TrodAll enc Try.prog W 0 (fun _ => true) true Try.f3.params.toList args.toList ds p := hA0
  rw [Try.params3] at hA hval
  obtain ⟨v0, v1, d0, d1, p0, p1, rfl, rfl, rfl, h0, h1⟩ := trodAll_two hA
  obtain ⟨A, n, c, l, rfl, hl, hc, hc63, hr⟩ := open_bytes Try.underlying22 Try.underlying5 cells_u8 (hval 0 22 v0 rfl rfl) h0
  obtain ⟨cut, rfl, -, -, -⟩ := open_int Try.underlying3 (hval 1 3 v1 rfl rfl) h1
  refine (sums_walk A n c cut l W hl hc hc63 hr).mono fun e W' ⟨he, hb⟩ => ?_
  subst he
  exact ⟨_, rfl, Lw.post_true laidOut (by kernel_rfl) rfl rfl rfl rfl (by kernel_rfl) Try.underlying4 hW' hb⟩

/-- CrcSums: the sum of any bytes, in whatever rows, is the document's. -/
theorem crcSums_holds : Rows.CrcSumsSaid :=
  OpenClaim.holds_of_wide 3 Try.f3 rfl rfl rfl rfl rfl rfl rfl ⟨rfl, rfl, rfl, rfl, rfl⟩ rfl rfl rfl rfl rfl (by kernel_rfl) Try.func3 (by kernel_rfl)
    (of_decide_eq_true (by kernel_rfl)) (by unfold Func.isWrapper; rw [if_neg (of_decide_eq_false (by kernel_rfl))]; exact ⟨rfl, rfl⟩)
    (fun os started H enc _ => crcSums_lifted os started H enc)
#print axioms crcSums_holds
end Go.Proofs.Yteonfodeddaoiaa
