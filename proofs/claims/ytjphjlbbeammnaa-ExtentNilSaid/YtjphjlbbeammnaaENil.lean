/- ExtentNil is proved: a nil map is of no blocks; a great count counts as the most that may be; for every input, no conditions. -/
import Derived.Test.YtjphjlbbeammnaaAwakeE
import Derived.ProofKit
import Derived.Lib.SmallJoins
namespace Go.Proofs.Ytjphjlbbeammnaa
open Go.RowKit Me Ex

theorem cz_one (w : World) (i : Int) : Cz (w.alloc (.cells #[.int .i64 i] 3)) (fun _ => False) (some ⟨w.heap.size, 0, none⟩) (icells [i]) := cz_lit rfl rfl (fun h => h)
/-- The number of free blocks of a new map. -/
theorem free_count (i : Int) : free (List.replicate (min (max i 0) 65536).toNat false) = countN i := free_new _
set_option maxRecDepth 100000 in
set_option maxHeartbeats 2000000 in
theorem enil_walk (i n count : Int) (w : World) :
    Calls Try.prog 5 #[.int .i64 i, .int .i64 n, .int .i64 count] w fun e w' => e = .returned (.bool true) ∧ Below w.heap.size w w' := by
  have hway : (decide (n < 0) = true ∧ (n == 0) = false ∧ Hid ((if n < 0 then (1 : Int) else if 0 < n then 7 else 0) = 1)) ∨ (decide (n < 0) = false ∧ (n == 0) = false ∧ Hid ((if n < 0 then (1 : Int) else if 0 < n then 7 else 0) = 7)) ∨ (decide (n < 0) = false ∧ (n == 0) = true ∧ Hid ((if n < 0 then (1 : Int) else if 0 < n then 7 else 0) = 0)) := by
    by_cases h1 : n < 0
    · exact .inl ⟨by simp; omega, by simp; omega, Lib.hid (if_pos h1)⟩
    · by_cases h2 : 0 < n
      · exact .inr (.inl ⟨by simp; omega, by simp; omega, Lib.hid (by rw [if_neg h1, if_pos h2])⟩)
      · exact .inr (.inr ⟨by simp; omega, by simp; omega, Lib.hid (by rw [if_neg h1, if_neg h2])⟩)
  have HT := Lib.hid (take_nil w n)
  rcases hway with ⟨d0, d1, HE⟩ | ⟨d0, d1, HE⟩ | ⟨d0, d1, HE⟩
  all_goals
    rw [HE.out] at HT
    go_enter Try.func5, Try.ntmps5
    go_wp2_with (first
      | (go_at_call 15; refine HT.out.mono ?_; rintro e w' ⟨rfl, rfl⟩)
      | fail)
    refine (hold_nil _ (fun _ => False) (some ⟨w.heap.size, 0, none⟩) 1 1 [i] rfl (by omega) (cz_one w i)).mono ?_
    rw [if_pos (by omega)]
    rintro e w1 ⟨rfl, hb1⟩
    have hb1 : Below w.heap.size w w1 := ((Below.refl w.heap.size w).alloc (Nat.le_refl _) (.cells #[.int .i64 i] 3)).trans (hb1.mono (by simp))
    have HB1 := Lib.hid hb1
    have hs1 := hb1.size
    clear hb1
    go_wp2_with fail
    refine (give_nil _ (fun _ => False) (some ⟨w1.heap.size, 0, none⟩) 1 1 [i] rfl (by omega) (cz_one w1 i)).mono ?_
    rw [if_pos (by omega)]
    rintro e w2 ⟨rfl, hb2⟩
    have hb2 : Below w.heap.size w w2 := HB1.out.trans ((((Below.refl w1.heap.size w1).alloc (Nat.le_refl _) (.cells #[.int .i64 i] 3)).trans (hb2.mono (by simp))).mono hs1)
    have HB2 := Lib.hid hb2
    have hs2 := hb2.size
    clear hb2
    have HH := Lib.hid (hold_nil w2 (fun _ => False) none 0 0 [] rfl (by omega) Cz.empty)
    rw [if_neg (by omega)] at HH
    go_wp2_with (first
      | (go_at_call 12; refine (free_nil _).mono ?_; rintro e w' ⟨rfl, rfl⟩)
      | (go_at_call 14; refine (is_nil _ _).mono ?_; rintro e w' ⟨rfl, rfl⟩)
      | (go_at_call 10; refine (mclone_nil _).mono ?_; rintro e w' ⟨rfl, rfl⟩)
      | fail)
    refine HH.out.mono ?_
    rintro e w3 ⟨rfl, hb3⟩
    have HB3 := Lib.hid (HB2.out.trans (hb3.mono hs2))
    have hs3 := HB3.out.size
    clear hb3 HH
    go_wp2_with fail
    refine (new_any count _).mono ?_
    rintro e w4 ⟨D, own, rfl, hm4, hb4⟩
    have hf4 := free_any hm4
    rw [free_count] at hf4
    have HM4 := Lib.hid hf4
    have HB4 := Lib.hid (HB3.out.trans (hb4.mono hs3))
    have hs4 := HB4.out.size
    clear hm4 hb4 hf4
    go_wp2_with fail
    refine HM4.out.mono ?_
    rintro e w5 ⟨rfl, rfl⟩
    have HR := Lib.hid (rcount_any count w4)
    generalize countN count = cn at *
    have q0 : ((cn : Int) == (cn : Int)) = true := by simp
    go_wp2_with (first
      | (go_at_call 9; refine HR.out.mono ?_; rintro e w' ⟨rfl, rfl⟩)
      | (go_at_call 7; refine (awake_any _).mono ?_; rintro e w6 ⟨rfl, hb⟩; have HB6 := Lib.hid (HB4.out.trans (hb.mono hs4)); clear hb)
      | fail)
    go_ret
    exact ⟨rfl, HB6.out⟩
open Go.ChangeShapes Go.WideShapes Go.ChangeAt Go.Joins
set_option maxRecDepth 100000 in
theorem extentNil_lifted (os : Os) (started : os.Started) (H : Type) (enc : TypeId × Value → H) :
    ReturnsInHanded {} Try.checked os 5 .any (Rows.extentNilSpec.pre6 enc Try.prog Try.f5 Rows.extentNilRow.domain false) (Rows.extentNilSpec.post enc Try.prog Try.f5 false true false false) := by
  refine returnsInHanded_of_change (C := Try.checked) own started (by kernel_rfl) Try.func5
    (ChangeSpec.witness6 (enc := enc) (C := Try.checked) false ⟨#[], #[.int .i64 0, .int .i64 0, .int .i64 0], []⟩ 8 (by kernel_rfl) (by kernel_rfl) (by kernel_rfl) (by kernel_rfl)) ?_
  intro W base args ds gs before hval0 hW hcnd _
  have hval : ∀ (j : Nat) t v, Try.f5.params[j]? = some t → args[j]? = some v → Value.okWide Try.prog W .any base t v := hval0
  have hW' := hW
  obtain ⟨p, q, hA0, hV, rfl, hfz, hnd⟩ := hW
  have hA : DataW.TrodAll enc Try.prog W 0 (fun _ => true) true Try.f5.params.toList args.toList ds p := hA0
  rw [Try.params5] at hA hval
  obtain ⟨v0, v1, v2, d0, d1, d2, p0, p1, p2, rfl, rfl, rfl, h0, h1, h2⟩ := trodAll_three hA
  obtain ⟨i, rfl, -, -, -⟩ := open_int Try.underlying3 (hval 0 3 v0 rfl rfl) h0
  obtain ⟨n, rfl, -, -, -⟩ := open_int Try.underlying3 (hval 1 3 v1 rfl rfl) h1
  obtain ⟨count, rfl, -, -, -⟩ := open_int Try.underlying3 (hval 2 3 v2 rfl rfl) h2
  have hwalk : Calls Try.prog 5 #[.int .i64 i, .int .i64 n, .int .i64 count] W fun e w' => e = .returned (.bool true) ∧ Below W.heap.size W w' := by
    exact enil_walk i n count W
  refine hwalk.mono fun e W' ⟨he, hb⟩ => ?_
  subst he
  exact ⟨_, rfl, Lw.post_true laidOut (by kernel_rfl) rfl rfl rfl rfl (by kernel_rfl) Try.underlying4 hW' hb⟩

/-- ExtentNil: a nil map is of no blocks; a great count counts as the most that may be. -/
theorem extentNil_holds : Rows.ExtentNilSaid :=
  OpenClaim.holds_of_wide 5 Try.f5 rfl rfl rfl rfl rfl rfl rfl ⟨rfl, rfl, rfl, rfl, rfl⟩ rfl rfl rfl rfl rfl (by kernel_rfl) Try.func5 (by kernel_rfl)
    (of_decide_eq_true (by kernel_rfl)) (by unfold Func.isWrapper; rw [if_neg (of_decide_eq_false (by kernel_rfl))]; exact ⟨rfl, rfl⟩)
    (fun os started H enc _ => extentNil_lifted os started H enc)
#print axioms extentNil_holds
end Go.Proofs.Ytjphjlbbeammnaa
