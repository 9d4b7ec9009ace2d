/- FrameReads is proved: the section in front of any bytes, and all of them, or the error, are the document's; for every input, no conditions. -/
import Derived.Test.YtinalnjekbfifaaSame
import Derived.Test.YtinalnjekbfifaaLaw
import Derived.ProofKit
import Derived.Lib.SmallJoins
namespace Go.Proofs.Ytinalnjekbfifaa
open Go.RowKit Cr Me Fr

theorem allS_len : ∀ (f : Nat) (acc : List SecD) (b : List UInt8), (allS f acc b).1.length ≤ acc.length + b.length
  | 0, acc, b => Nat.le_add_right _ _
  | f + 1, acc, b => by
    rw [allS]
    split
    · exact Nat.le_add_right _ _
    · split
      · rename_i h0 hx
        rcases getS_cases b with ⟨x, h1, h2⟩ | ⟨s, n, h1, -, -, h4⟩
        · rw [h1] at hx
          exact absurd hx h2
        · have := allS_len f (acc ++ [(getS b).1]) (b.drop (getS b).2.1)
          rw [h1] at this ⊢
          simp only [List.length_append, List.length_cons, List.length_nil, List.length_drop] at this
          simp only at this ⊢
          omega
      · simp
set_option maxRecDepth 100000 in
set_option maxHeartbeats 2000000 in
theorem freads_law (A : Option Addr) (n c : Nat) (b : List UInt8) (w : World) (hb : b.length = n) (hc : n ≤ c) (hc63 : c ≤ 9223372036854775807) (hn : n ≤ 3000) (hr : Rd w w.heap.size A b) :
    Calls Try.prog 4 #[.slice A n c] w fun e w' => e = .returned (.bool true) ∧ Below w.heap.size w w' := by
  have d1 : decide ((3000 : Int) < (n : Int)) = false := by simp; omega
  have HB := Lib.hid hb
  have HR := Lib.hid hr
  obtain ⟨s, q, x, hg⟩ : ∃ s q x, getS b = (s, q, x) := ⟨_, _, _, rfl⟩
  obtain ⟨l, y, ha⟩ : ∃ l y, secsOf b = (l, y) := ⟨_, _, rfl⟩
  have hll : l.length ≤ 3000 := by
    have := allS_len b.length [] b
    have e : allS b.length [] b = (l, y) := ha
    rw [e, hb] at this
    simp at this
    omega
  have HG := Lib.hid hg
  have HS := Lib.hid ha
  have hk8 := s.kind.toNat_lt
  clear hb hr hg ha
  go_enter Try.func4, Try.ntmps4
  go_wp2_with fail
  refine (fget_any A n c b w HB.out hc hc63 HR.out).mono ?_
  rw [HG.out]
  rintro e w1 ⟨hb1, Y, m, dd, rfl, hm, hm1, hr1, -⟩
  have HM := Lib.hid (show s.body.length = m from hm)
  have T1 := Lib.hid (Two.new w1 (.int .u8 (s.kind.toNat : Int)) (.slice Y m dd) 30)
  have hb2 : Below w1.heap.size w1 (w1.alloc (.cells #[.int .u8 (s.kind.toNat : Int), .slice Y m dd] 30)) := (Below.refl _ _).alloc (Nat.le_refl _) _
  have HB1 := Lib.hid (show Below w.heap.size w w1 from hb1)
  have HB2 := Lib.hid (HB1.out.trans (hb2.mono HB1.out.size))
  have HR2 := Lib.hid (((show Rd w1 w1.heap.size Y s.body from hr1).below hb2).more hb2.size)
  clear hb1 hm hr1 hb2
  go_wp2_with fail
  generalize hw2 : w1.alloc (.cells #[.int .u8 (s.kind.toNat : Int), .slice Y m dd] 30) = w2 at *
  refine (ref_fget_any A n c b w2 HB.out hc hc63 ((HR.out.below HB2.out).more HB2.out.size)).mono ?_
  rw [HG.out]
  rintro e w3 ⟨hb3, Z, m', dd', rfl, hm', hm1', hr3, -⟩
  have em : m' = m := by have h1 : s.body.length = m' := hm'; rw [HM.out] at h1; exact h1.symm
  subst em
  have hb3' : Below w2.heap.size w2 w3 := hb3
  have T3 := Lib.hid (Two.new w3 (.int .u8 (s.kind.toNat : Int)) (.slice Z m' dd') 30)
  have hb4 : Below w3.heap.size w3 (w3.alloc (.cells #[.int .u8 (s.kind.toNat : Int), .slice Z m' dd'] 30)) := (Below.refl _ _).alloc (Nat.le_refl _) _
  have hb24 := hb3'.trans (hb4.mono hb3'.size)
  have HB4 := Lib.hid (HB2.out.trans (hb24.mono HB2.out.size))
  have HR4 := Lib.hid ((HR2.out.below hb24).more hb24.size)
  have T14 := Lib.hid (T1.out.past hb24)
  have HZ4 := Lib.hid (((show Rd w3 w3.heap.size Z s.body from hr3).below hb4).more hb4.size)
  clear hb3 hm' hr3 hb4 hb24 hb3'
  go_wp2_with fail
  generalize hw4 : w3.alloc (.cells #[.int .u8 (s.kind.toNat : Int), .slice Z m' dd'] 30) = w4 at *
  refine (fall_any A n c b w4 HB.out hc hc63 (by omega) ((HR.out.below HB4.out).more HB4.out.size)).mono ?_
  rw [HS.out]
  rintro e w5 ⟨hb5, L, k, d, rfl, hk, hs5⟩
  have HK := Lib.hid (show l.length = k from hk)
  have HB5 := Lib.hid (HB4.out.trans (Below.mono hb5 HB4.out.size))
  have HL5 := Lib.hid (show Secs w5 w5.heap.size L l from hs5)
  have T15 := Lib.hid (T14.out.past hb5)
  have T35 := Lib.hid (T3.out.past hb5)
  have HR5 := Lib.hid ((HR4.out.below hb5).more (Below.size hb5))
  have HZ5 := Lib.hid ((HZ4.out.below hb5).more (Below.size hb5))
  have hkk : k ≤ 3000 := by rw [← HK.out]; exact hll
  clear hb5 hk hs5
  go_wp2_with fail
  refine (ref_fall_any A n c b w5 HB.out hc hc63 (by omega) ((HR.out.below HB5.out).more HB5.out.size)).mono ?_
  rw [HS.out]
  rintro e w6 ⟨hb6, L', k', d', rfl, hk', hs6⟩
  have ek : k' = k := by have h1 : l.length = k' := hk'; rw [HK.out] at h1; exact h1.symm
  subst ek
  have HB6 := Lib.hid (HB5.out.trans (Below.mono hb6 HB5.out.size))
  have HM6 := Lib.hid (show Secs w6 w6.heap.size L' l from hs6)
  have HL6 := Lib.hid ((HL5.out.below hb6).more (Below.size hb6))
  obtain ⟨r0, r1, -, -⟩ := T15.out.past hb6
  obtain ⟨t0, t1, -, -⟩ := T35.out.past hb6
  have k1 := str_any Y m' dd s.body w6 _ HM.out (HR5.out.below hb6)
  have k2 := str_any Z m' dd' s.body w6 _ HM.out (HZ5.out.below hb6)
  clear hb6 hk' hs6
  go_wp2_with (first
    | (go_at_call 12; refine (ssame_any L L' k' d d' l w6 HK.out (by omega) HL6.out HM6.out).mono ?_; rintro e w7 ⟨rfl, hb7⟩; have HB7 := Lib.hid (HB6.out.trans (hb7.mono HB6.out.size)); clear hb7)
    | (go_at_call 8; refine (awake_any w7).mono ?_; rintro e w8 ⟨rfl, hb8⟩; have HB8 := Lib.hid (HB7.out.trans (hb8.mono HB7.out.size)); clear hb8))
  go_ret
  exact ⟨rfl, HB8.out⟩
theorem freads_long (A : Option Addr) (n c : Nat) (w : World) (hn : 3000 < n) :
    Calls Try.prog 4 #[.slice A n c] w fun e w' => e = .returned (.bool true) ∧ Below w.heap.size w w' := by
  have h1 : decide ((3000 : Int) < (n : Int)) = true := by simp; omega
  go_enter Try.func4, Try.ntmps4
  go_wp2_with (go_at_call 8; refine (awake_any _).mono ?_; rintro e w1 ⟨rfl, hb⟩)
  go_ret
  exact ⟨rfl, hb⟩
open Go.ChangeShapes Go.WideShapes Go.ChangeAt Go.Joins
set_option maxRecDepth 100000 in
theorem frameReads_lifted (os : Os) (started : os.Started) (H : Type) (enc : TypeId × Value → H) :
    ReturnsInHanded {} Try.checked os 4 .any (Rows.frameReadsSpec.pre6 enc Try.prog Try.f4 Rows.frameReadsRow.domain false) (Rows.frameReadsSpec.post enc Try.prog Try.f4 false true false false) := by
  refine returnsInHanded_of_change (C := Try.checked) own started (by kernel_rfl) Try.func4
    (ChangeSpec.witness6 (enc := enc) (C := Try.checked) false ⟨#[], #[.slice none 0 0], []⟩ 8 (by kernel_rfl) (by kernel_rfl) (by kernel_rfl) (by kernel_rfl)) ?_
  intro W base args ds gs before hval0 hW hcnd _
  have hval : ∀ (j : Nat) t v, Try.f4.params[j]? = some t → args[j]? = some v → Value.okWide Try.prog W .any base t v := hval0
  have hW' := hW
  obtain ⟨p, q, hA0, hV, rfl, hfz, hnd⟩ := hW
  have hA : DataW.TrodAll enc Try.prog W 0 (fun _ => true) true Try.f4.params.toList args.toList ds p := hA0
  rw [Try.params4] at hA hval
  obtain ⟨v0, d0, rfl, rfl, h0⟩ := trodAll_one hA
  obtain ⟨A, n, c, b, rfl, hb, hnc, hc63, hr⟩ := open_bytes Try.underlying25 Try.underlying5 cells_u8 (hval 0 25 v0 rfl rfl) h0
  have hwalk : Calls Try.prog 4 #[.slice A n c] W fun e w' => e = .returned (.bool true) ∧ Below W.heap.size W w' := by
    by_cases h : 3000 < n
    · exact freads_long A n c W h
    · exact freads_law A n c b W hb hnc hc63 (by omega) hr
  refine hwalk.mono fun e W' ⟨he, hb⟩ => ?_
  subst he
  exact ⟨_, rfl, Lw.post_true laidOut (by kernel_rfl) rfl rfl rfl rfl (by kernel_rfl) Try.underlying4 hW' hb⟩

/-- FrameReads: the section in front of any bytes, and all of them, or the error, are the document's. -/
theorem frameReads_holds : Rows.FrameReadsSaid :=
  OpenClaim.holds_of_wide 4 Try.f4 rfl rfl rfl rfl rfl rfl rfl ⟨rfl, rfl, rfl, rfl, rfl⟩ rfl rfl rfl rfl rfl (by kernel_rfl) Try.func4 (by kernel_rfl)
    (of_decide_eq_true (by kernel_rfl)) (by unfold Func.isWrapper; rw [if_neg (of_decide_eq_false (by kernel_rfl))]; exact ⟨rfl, rfl⟩)
    (fun os started H enc _ => frameReads_lifted os started H enc)
#print axioms frameReads_holds
end Go.Proofs.Ytinalnjekbfifaa
