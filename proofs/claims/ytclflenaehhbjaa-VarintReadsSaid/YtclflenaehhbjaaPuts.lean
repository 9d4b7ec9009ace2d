/- VarintPuts is proved: any number's bytes, behind others, are the document's, and read back; so of one with a sign; for every input, no conditions. -/
import Derived.Test.YtclflenaehhbjaaRds
import Derived.ProofKit
import Derived.Lib.SmallJoins
namespace Go.Proofs.Ytclflenaehhbjaa
open Go.RowKit Me Va

/-- A row of one's own, behind a call that has written another block. -/
theorem own_past {w w' : World} {base g : Nat} {e : TypeId} {v : Value} {n : Nat} {xs : List Value} (h : w.ownsRow base e 1 v n xs) (hg : w.grownBy w' (some g)) (hlt : g < base) : w'.ownsRow base e 1 v n xs := by
  refine h.kept hg ?_
  cases hv : v.ownBlock with
  | none => exact .inl rfl
  | some k =>
    right
    have := (World.ownsRow.lt h k hv).1
    simp
    omega
theorem below_past {w w' : World} {g B : Nat} (hg : w.grownBy w' (some g)) (hB : B ≤ g) (hs : B ≤ w.heap.size) : Below B w w' :=
  (Below.refl B w).grown hg hs fun k hk => by cases hk; exact hB
theorem read_front (b r : List UInt8) : bytesOf (b ++ r) 0 (b.length : Int) = (b, r, 0) := by
  unfold bytesOf
  rw [if_neg (by simp), if_neg (by omega), if_neg (by simp; omega)]
  simp
theorem read_num {n : Nat} (r : List UInt8) (h : n < 18446744073709551616) (most : Nat) (hm : n ≤ most) : numOf (enc n ++ r) 0 most = (n, r, 0) := by
  unfold numOf
  rw [if_neg (by simp), pars_put h r, if_neg (by simp), if_neg (by simp; omega)]
  simp
set_option maxRecDepth 100000 in
set_option maxHeartbeats 1000000 in
theorem puts_law (A : Option Addr) (n c num : Nat) (k : Int) (l : List UInt8) (w : World) (hl : l.length = n) (hn : n ≤ 1000) (hr : Rd w w.heap.size A l) (hnum : num < 18446744073709551616)
    (hk1 : -9223372036854775808 ≤ k) (hk2 : k ≤ 9223372036854775807) :
    Calls Try.prog 3 #[.slice A n c, .int .u64 (num : Int), .int .i64 k] w fun e w' => e = .returned (.bool true) ∧ Below w.heap.size w w' := by
  obtain ⟨i0, hi0, hz0, hz1, hz2⟩ := info_parts u8_info
  have d1 : decide ((1000 : Int) < (n : Int)) = false := by simp; omega
  have hb0 : Below w.heap.size w (w.alloc (.cells #[] 5)) := (Below.refl _ _).alloc (Nat.le_refl _) _
  have HL := Lib.hid hl
  have HR := Lib.hid hr
  have HB0 := Lib.hid hb0
  have HNUM := Lib.hid hnum
  have HK1 := Lib.hid hk1
  have HK2 := Lib.hid hk2
  have ht1 := enc_ten hnum
  have ht2 := enc_ten (zig_fits hk1 hk2)
  clear hl hr hb0 hnum hk1 hk2
  go_enter Try.func3, Try.ntmps3
  go_wp2_with (at_builtin
               refine wpList_app rfl (.tmp 17) (.tmp 18) 22 rfl w.heap.size 5 i0 _ Try.underlying22 hi0 hz0 hz1 hz2 rfl (.slice (some ⟨w.heap.size, 0, none⟩) 0 0) 0 [] rfl (own_empty w _ _ (Nat.le_refl _)) w.heap.size A n c l rfl HL.out (HR.out.below HB0.out) (by omega) HB0.out.size ?_
               intro v1 w1 hown1 hg1 hat1
               have HB1 := Lib.hid (below_app HB0.out (own_empty w _ _ (Nat.le_refl _)) (Nat.le_refl _) HB0.out.size hg1)
               have HW1 := Lib.hid hown1
               clear hat1 hg1 hown1)
  obtain ⟨A1, c1, rfl⟩ := own_slice HW1.out
  have hw1 := HW1.out
  rw [Nat.zero_add, List.nil_append] at hw1
  rw [Nat.zero_add]
  have HR1 := Lib.hid (Rd.of_own hw1)
  clear hw1 HW1
  refine (put_any A1 n c1 num l w1 HL.out (by omega) HR1.out HNUM.out).mono ?_
  intro e w2 h2
  obtain ⟨A2, n2, c2, rfl, hl2, hc2, -, hr2, hb2⟩ := h2.open
  have HL2 := Lib.hid hl2
  have HR2 := Lib.hid hr2
  have HB2 := Lib.hid (HB1.out.trans (hb2.mono HB1.out.size))
  have hn2 : n2 ≤ 1010 := by rw [← hl2, List.length_append, HL.out]; omega
  clear hl2 hr2 hb2 h2 HB1 HR1
  go_wp2_with fail
  refine (putSigned_any A2 n2 c2 k (l ++ enc num) w2 HL2.out (by omega) HR2.out HK1.out HK2.out).mono ?_
  intro e w3 h3
  obtain ⟨A3, n3, c3, rfl, hl3, hc3, -, hr3, hb3⟩ := h3.open
  have HL3 := Lib.hid hl3
  have HR3 := Lib.hid hr3
  have HB3 := Lib.hid (HB2.out.trans (hb3.mono HB2.out.size))
  have hn3 : n3 ≤ 1020 := by rw [← hl3, List.length_append, HL2.out]; omega
  clear hl3 hr3 hb3 h3 HB2 HR2 HL2
  have HB30 := Lib.hid (show Below w3.heap.size w3 (w3.alloc (.cells #[] 5)) from (Below.refl _ _).alloc (Nat.le_refl _) _)
  have HRb := Lib.hid ((HR.out.below HB3.out).more HB3.out.size)
  go_wp2_with (at_builtin
               refine wpList_app rfl (.tmp 24) (.tmp 25) 22 rfl w3.heap.size 5 i0 _ Try.underlying22 hi0 hz0 hz1 hz2 rfl (.slice (some ⟨w3.heap.size, 0, none⟩) 0 0) 0 [] rfl (own_empty w3 _ _ (Nat.le_refl _)) w3.heap.size A n c l rfl HL.out (HRb.out.below HB30.out) (by omega) HB30.out.size ?_
               intro v4 w4 hown4 hg4 hat4
               have HB4 := Lib.hid (below_app HB30.out (own_empty w3 _ _ (Nat.le_refl _)) (Nat.le_refl _) HB30.out.size hg4)
               have HW4 := Lib.hid hown4
               clear hat4 hg4 hown4)
  have hw4 := HW4.out
  rw [Nat.zero_add, List.nil_append] at hw4
  rw [Nat.zero_add, List.nil_append] at HW4
  refine (ref_num_any num w4 HNUM.out).mono ?_
  intro e w5 h5
  obtain ⟨A5, n5, c5, rfl, hl5, hc5, -, hr5, hb5⟩ := h5.open
  have HL5 := Lib.hid hl5
  have HR5 := Lib.hid hr5
  have HB5 := Lib.hid (HB4.out.trans (hb5.mono HB4.out.size))
  have HW5 := Lib.hid (own_below hw4 hb5)
  have hn5 : n5 ≤ 10 := by rw [← hl5]; exact ht1
  clear hl5 hr5 hb5 h5 hw4 HW4 HB4
  go_wp2_with (at_builtin
               refine wpList_app rfl (.tmp 26) (.tmp 28) 22 rfl w3.heap.size 5 i0 _ Try.underlying22 hi0 hz0 hz1 hz2 rfl v4 n l rfl HW5.out w5.heap.size A5 n5 c5 (enc num) rfl HL5.out HR5.out (by omega) HB5.out.size ?_
               intro v6 w6 hown6 hg6 hat6
               have HB6 := Lib.hid (below_app HB5.out HW5.out (Nat.le_refl _) HB5.out.size hg6)
               have HW6 := Lib.hid hown6
               clear hat6 hg6 hown6)
  refine (ref_signed_any k w6 HK1.out HK2.out).mono ?_
  intro e w7 h7
  obtain ⟨A7, n7, c7, rfl, hl7, hc7, -, hr7, hb7⟩ := h7.open
  have HL7 := Lib.hid hl7
  have HR7 := Lib.hid hr7
  have HB7 := Lib.hid (HB6.out.trans (hb7.mono HB6.out.size))
  have HW7 := Lib.hid (own_below HW6.out hb7)
  have hn7 : n7 ≤ 10 := by rw [← hl7]; exact ht2
  clear hl7 hr7 hb7 h7 HW6 HB6
  go_wp2_with (at_builtin
               refine wpList_app rfl (.tmp 29) (.tmp 31) 22 rfl w3.heap.size 5 i0 _ Try.underlying22 hi0 hz0 hz1 hz2 rfl v6 (n + n5) (l ++ enc num) rfl HW7.out w7.heap.size A7 n7 c7 (enc (zig k)) rfl HL7.out HR7.out (by omega) HB7.out.size ?_
               intro v8 w8 hown8 hg8 hat8
               have HB8 := Lib.hid (below_app HB7.out HW7.out (Nat.le_refl _) HB7.out.size hg8)
               have HW8 := Lib.hid hown8
               clear hat8 hg8 hown8)
  obtain ⟨A8, c8, rfl⟩ := own_slice HW8.out
  have HR8 := Lib.hid (Rd.of_own HW8.out)
  have HL8 := Lib.hid (show (l ++ enc num ++ enc (zig k)).length = n + n5 + n7 by rw [List.length_append, List.length_append, HL.out, HL5.out, HL7.out])
  have HR38 := Lib.hid ((HR3.out.below HB8.out).more HB8.out.size)
  have HBw := Lib.hid (HB3.out.trans (HB8.out.mono HB3.out.size))
  have HRl := Lib.hid ((HRb.out.below HB8.out).more HB8.out.size)
  clear HW8 HB8 HW7 HB7 HR7 HL7 HB5 HW5 HR5 HL5 HB30 HB3 HRb HR3
  -- the reader
  refine (new_any A3 n3 c3 (l ++ enc num ++ enc (zig k)) w8 HL3.out (by omega) HR38.out).mono ?_
  rintro e w9 ⟨g, rfl, hg9, hs9, hrd9, hb9⟩
  rw [List.append_assoc] at hrd9
  have HG9 := Lib.hid hg9
  have HS9 := Lib.hid hs9
  have HRD9 := Lib.hid hrd9
  have HB9 := Lib.hid hb9
  clear hg9 hs9 hrd9 hb9
  go_wp2_with fail
  refine (bytes_any g (l ++ (enc num ++ enc (zig k))) 0 (n : Int) w9 HRD9.out (by omega)).mono ?_
  rw [← HL.out, read_front, HL.out]
  rintro e w10 ⟨A10, n10, c10, rfl, hl10, hc10, ho10, hr10, hrd10, hg10⟩
  have HL10 := Lib.hid hl10
  have HO10 := Lib.hid ho10
  have HRD10 := Lib.hid hrd10
  have HB10 := Lib.hid (HB9.out.trans (below_past hg10 HG9.out HB9.out.size))
  clear hl10 ho10 hr10 hrd10 hg10 HRD9 HB9
  go_wp2_with fail
  refine (num_any g (enc num ++ enc (zig k)) 0 num w10 HRD10.out).mono ?_
  rw [read_num (enc (zig k)) HNUM.out num (Nat.le_refl _)]
  rintro e w11 ⟨rfl, hrd11, hg11⟩
  have HRD11 := Lib.hid (show Rdr w11 g (enc (zig k) ++ []) 0 by rw [List.append_nil]; exact hrd11)
  have HO11 := Lib.hid (own_past HO10.out hg11 HS9.out)
  have HB11 := Lib.hid (HB10.out.trans (below_past hg11 HG9.out HB10.out.size))
  clear hrd11 hg11 HO10 HRD10 HB10
  go_wp2_with fail
  refine (signed_any g (enc (zig k) ++ []) 0 w11 HRD11.out).mono ?_
  rw [read_num [] (zig_fits HK1.out HK2.out) top (by have := zig_fits HK1.out HK2.out; unfold top; omega)]
  rw [zag_zig]
  rintro e w12 ⟨rfl, hrd12, hg12⟩
  have HRD12 := Lib.hid hrd12
  have HO12 := Lib.hid (own_past HO11.out hg12 HS9.out)
  have HB12 := Lib.hid (HB11.out.trans (below_past hg12 HG9.out HB11.out.size))
  clear hrd12 hg12 HO11 HRD11 HB11
  have k1 := str_any A3 n3 c3 _ w12 _ HL3.out (HR38.out.below HB12.out)
  have k2 := str_any A8 (n + n5 + n7) c8 _ w12 _ HL8.out (HR8.out.below HB12.out)
  have k3 := str_any A10 n10 c10 l w12 _ HL10.out (Rd.of_own HO12.out)
  have k4 := str_any A n c l w12 _ HL.out (HRl.out.below HB12.out)
  have HEND := Lib.hid (end_any g [] 0 w12 HRD12.out)
  go_wp2_with (first
    | (go_at_call 16; refine (HEND.out).mono ?_; rintro e w' ⟨rfl, rfl⟩)
    | (go_at_call 7; refine (awake_any _).mono ?_; rintro e w13 ⟨rfl, hb13⟩))
  go_ret
  exact ⟨rfl, (HBw.out.trans (HB12.out.mono HBw.out.size)).trans (hb13.mono (Nat.le_trans HBw.out.size HB12.out.size))⟩
theorem puts_long (A : Option Addr) (n c num : Nat) (k : Int) (w : World) (hn : 1000 < n) :
    Calls Try.prog 3 #[.slice A n c, .int .u64 (num : Int), .int .i64 k] w fun e w' => e = .returned (.bool true) ∧ Below w.heap.size w w' := by
  have h1 : decide ((1000 : Int) < (n : Int)) = true := by simp; omega
  go_enter Try.func3, Try.ntmps3
  go_wp2_with (go_at_call 7; refine (awake_any _).mono ?_; rintro e w1 ⟨rfl, hb⟩)
  go_ret
  exact ⟨rfl, hb⟩
/-- The bounds of numbers. -/
theorem u64_nat {y : Int} (h : (Lit.int .u64 y).wf = true) : ∃ m : Nat, y = (m : Int) ∧ m < 18446744073709551616 := by
  simp [Lit.wf, IntKind.min, IntKind.max, IntKind.bits, IntKind.signed] at h
  exact ⟨y.toNat, by omega, by omega⟩
theorem i64_bounds {y : Int} (h : (Lit.int .i64 y).wf = true) : -9223372036854775808 ≤ y ∧ y ≤ 9223372036854775807 := by
  simp [Lit.wf, IntKind.min, IntKind.max, IntKind.bits, IntKind.signed] at h
  omega
open Go.ChangeShapes Go.WideShapes Go.ChangeAt Go.Joins
set_option maxRecDepth 100000 in
theorem varintPuts_lifted (os : Os) (started : os.Started) (H : Type) (enc : TypeId × Value → H) :
    ReturnsInHanded {} Try.checked os 3 .any (Rows.varintPutsSpec.pre6 enc Try.prog Try.f3 Rows.varintPutsRow.domain false) (Rows.varintPutsSpec.post enc Try.prog Try.f3 false true false false) := by
  refine returnsInHanded_of_change (C := Try.checked) own started (by kernel_rfl) Try.func3
    (ChangeSpec.witness6 (enc := enc) (C := Try.checked) false ⟨#[], #[.slice none 0 0, .int .u64 0, .int .i64 0], []⟩ 8 (by kernel_rfl) (by kernel_rfl) (by kernel_rfl) (by kernel_rfl)) ?_
  intro W base args ds gs before hval0 hW hcnd _
  have hval : ∀ (j : Nat) t v, Try.f3.params[j]? = some t → args[j]? = some v → Value.okWide Try.prog W .any base t v := hval0
  have hW' := hW
  obtain ⟨p, q, hA0, hV, rfl, hfz, hnd⟩ := hW
  have hA : DataW.TrodAll enc Try.prog W 0 (fun _ => true) true Try.f3.params.toList args.toList ds p := hA0
  rw [Try.params3] at hA hval
  obtain ⟨v0, v1, v2, d0, d1, d2, p0, p1, p2, rfl, rfl, rfl, h0, h1, h2⟩ := trodAll_three hA
  obtain ⟨A, n, c, l, rfl, hl, hc, hc63, hr⟩ := open_bytes Try.underlying22 Try.underlying5 cells_u8 (hval 0 22 v0 rfl rfl) h0
  obtain ⟨y, rfl, -, -, wy⟩ := open_int Try.underlying23 (hval 1 23 v1 rfl rfl) h1
  obtain ⟨k, rfl, -, -, wk⟩ := open_int Try.underlying2 (hval 2 2 v2 rfl rfl) h2
  obtain ⟨num, rfl, hnum⟩ := u64_nat wy
  obtain ⟨hk1, hk2⟩ := i64_bounds wk
  have hwalk : Calls Try.prog 3 #[.slice A n c, .int .u64 (num : Int), .int .i64 k] W fun e w' => e = .returned (.bool true) ∧ Below W.heap.size W w' := by
    by_cases h : 1000 < n
    · exact puts_long A n c num k W h
    · exact puts_law A n c num k l W hl (by omega) hr hnum hk1 hk2
  refine hwalk.mono fun e W' ⟨he, hb⟩ => ?_
  subst he
  exact ⟨_, rfl, Lw.post_true laidOut (by kernel_rfl) rfl rfl rfl rfl (by kernel_rfl) Try.underlying4 hW' hb⟩

/-- VarintPuts: any number's bytes, behind others, are the document's, and read back; so of one with a sign. -/
theorem varintPuts_holds : Rows.VarintPutsSaid :=
  OpenClaim.holds_of_wide 3 Try.f3 rfl rfl rfl rfl rfl rfl rfl ⟨rfl, rfl, rfl, rfl, rfl⟩ rfl rfl rfl rfl rfl (by kernel_rfl) Try.func3 (by kernel_rfl)
    (of_decide_eq_true (by kernel_rfl)) (by unfold Func.isWrapper; rw [if_neg (of_decide_eq_false (by kernel_rfl))]; exact ⟨rfl, rfl⟩)
    (fun os started H enc _ => varintPuts_lifted os started H enc)
#print axioms varintPuts_holds
end Go.Proofs.Ytclflenaehhbjaa
