/- VarintNil is proved: a nil reader is one of no bytes; for every input, no conditions. -/
import Derived.Test.YtclflenaehhbjaaPut
import Derived.Test.YtclflenaehhbjaaGrow
import Derived.ProofKit
import Derived.Lib.SmallJoins
namespace Go.Proofs.Ytclflenaehhbjaa
open Go.RowKit Me Va

/-- A nil reader's answers: nothing turns. -/
theorem num_nil (most : Int) (w : World) : Calls Try.prog 14 #[.pointer none, .int .u64 most] w fun e w' => e = .returned (.int .u64 0) ∧ w = w' := by
  go_enter Try.func14, Try.ntmps14
  go_wp2
  go_ret
  exact ⟨rfl, rfl⟩
theorem bytes_nil (n : Int) (w : World) : Calls Try.prog 13 #[.pointer none, .int .i64 n] w fun e w' => e = .returned (.slice none 0 0) ∧ w = w' := by
  go_enter Try.func13, Try.ntmps13
  go_wp2
  go_ret
  exact ⟨rfl, rfl⟩
theorem left_nil (w : World) : Calls Try.prog 22 #[.pointer none] w fun e w' => e = .returned (.int .i64 0) ∧ w = w' := by
  go_enter Try.func22, Try.ntmps22
  go_wp2
  go_ret
  exact ⟨rfl, rfl⟩
theorem err_nil (w : World) : Calls Try.prog 21 #[.pointer none] w fun e w' => e = .returned (.int .i64 0) ∧ w = w' := by
  go_enter Try.func21, Try.ntmps21
  go_wp2
  go_ret
  exact ⟨rfl, rfl⟩
/-- Back from twice. -/
theorem zagzig_any (m : Nat) (w : World) (hm : m < 18446744073709551616) : Calls Try.prog 27 #[.int .u64 (m : Int)] w fun e w' => e = .returned (.int .i64 (zag m)) ∧ w = w' := by
  by_cases ho : m % 2 = 1
  · have h1 : ((m : Int) % 2 == 1) = true := by rw [beq_iff_eq]; omega
    have HO := Lib.hid ho
    clear ho
    go_enter Try.func27, Try.ntmps27
    go_wp2
    go_ret
    exact ⟨ret_int (by unfold zag; rw [if_pos HO.out]; omega), rfl⟩
  · have h1 : ((m : Int) % 2 == 1) = false := by rw [beq_eq_false_iff_ne]; omega
    have HO := Lib.hid ho
    clear ho
    go_enter Try.func27, Try.ntmps27
    go_wp2
    go_ret
    exact ⟨ret_int (by unfold zag; rw [if_neg HO.out]; omega), rfl⟩
theorem signed_nil (w : World) : Calls Try.prog 15 #[.pointer none] w fun e w' => e = .returned (.int .i64 0) ∧ w = w' := by
  go_enter Try.func15, Try.ntmps15
  go_wp2_with fail
  refine (num_nil _ w).mono ?_
  rintro e w' ⟨rfl, rfl⟩
  go_wp2_with fail
  refine (zagzig_any 0 w (by decide)).mono ?_
  rintro e w' ⟨rfl, rfl⟩
  go_wp2
  go_ret
  exact ⟨rfl, rfl⟩
theorem end_nil (w : World) : Calls Try.prog 16 #[.pointer none] w fun e w' => e = .returned (.int .i64 0) ∧ w = w' := by
  go_enter Try.func16, Try.ntmps16
  go_wp2_with (first
    | (go_at_call 21; refine (err_nil w).mono ?_; rintro e w' ⟨rfl, rfl⟩)
    | (go_at_call 22; refine (left_nil w).mono ?_; rintro e w' ⟨rfl, rfl⟩))
  go_ret
  exact ⟨rfl, rfl⟩
set_option maxHeartbeats 400000 in
theorem nil_law (n most : Int) (w : World) :
    Calls Try.prog 6 #[.int .i64 n, .int .u64 most] w fun e w' => e = .returned (.bool true) ∧ Below w.heap.size w w' := by
  go_enter Try.func6, Try.ntmps6
  go_wp2_with (first
    | (go_at_call 14; refine (num_nil most w).mono ?_; rintro e w' ⟨rfl, rfl⟩)
    | (go_at_call 15; refine (signed_nil w).mono ?_; rintro e w' ⟨rfl, rfl⟩)
    | (go_at_call 13; refine (bytes_nil n w).mono ?_; rintro e w' ⟨rfl, rfl⟩)
    | (go_at_call 22; refine (left_nil w).mono ?_; rintro e w' ⟨rfl, rfl⟩)
    | (go_at_call 21; refine (err_nil w).mono ?_; rintro e w' ⟨rfl, rfl⟩)
    | (go_at_call 16; refine (end_nil w).mono ?_; rintro e w' ⟨rfl, rfl⟩)
    | (go_at_call 7; refine (awake_any w).mono ?_; rintro e w1 ⟨rfl, hb⟩))
  go_ret
  exact ⟨rfl, hb⟩
open Go.ChangeShapes Go.WideShapes Go.ChangeAt Go.Joins
set_option maxRecDepth 100000 in
theorem varintNil_lifted (os : Os) (started : os.Started) (H : Type) (enc : TypeId × Value → H) :
    ReturnsInHanded {} Try.checked os 6 .any (Rows.varintNilSpec.pre6 enc Try.prog Try.f6 Rows.varintNilRow.domain false) (Rows.varintNilSpec.post enc Try.prog Try.f6 false true false false) := by
  refine returnsInHanded_of_change (C := Try.checked) own started (by kernel_rfl) Try.func6
    (ChangeSpec.witness6 (enc := enc) (C := Try.checked) false ⟨#[], #[.int .i64 0, .int .u64 0], []⟩ 8 (by kernel_rfl) (by kernel_rfl) (by kernel_rfl) (by kernel_rfl)) ?_
  intro W base args ds gs before hval0 hW hcnd _
  have hval : ∀ (j : Nat) t v, Try.f6.params[j]? = some t → args[j]? = some v → Value.okWide Try.prog W .any base t v := hval0
  have hW' := hW
  obtain ⟨p, q, hA0, hV, rfl, hfz, hnd⟩ := hW
  have hA : DataW.TrodAll enc Try.prog W 0 (fun _ => true) true Try.f6.params.toList args.toList ds p := hA0
  rw [Try.params6] at hA hval
  obtain ⟨v0, v1, d0, d1, p0, p1, rfl, rfl, rfl, h0, h1⟩ := trodAll_two hA
  obtain ⟨n, rfl, -, -, -⟩ := open_int Try.underlying3 (hval 0 3 v0 rfl rfl) h0
  obtain ⟨most, rfl, -, -, -⟩ := open_int Try.underlying23 (hval 1 23 v1 rfl rfl) h1
  refine (nil_law n most W).mono fun e W' ⟨he, hb⟩ => ?_
  subst he
  exact ⟨_, rfl, Lw.post_true laidOut (by kernel_rfl) rfl rfl rfl rfl (by kernel_rfl) Try.underlying4 hW' hb⟩

/-- VarintNil: a nil reader is one of no bytes. -/
theorem varintNil_holds : Rows.VarintNilSaid :=
  OpenClaim.holds_of_wide 6 Try.f6 rfl rfl rfl rfl rfl rfl rfl ⟨rfl, rfl, rfl, rfl, rfl⟩ rfl rfl rfl rfl rfl (by kernel_rfl) Try.func6 (by kernel_rfl)
    (of_decide_eq_true (by kernel_rfl)) (by unfold Func.isWrapper; rw [if_neg (of_decide_eq_false (by kernel_rfl))]; exact ⟨rfl, rfl⟩)
    (fun os started H enc _ => varintNil_lifted os started H enc)
#print axioms varintNil_holds
end Go.Proofs.Ytclflenaehhbjaa
