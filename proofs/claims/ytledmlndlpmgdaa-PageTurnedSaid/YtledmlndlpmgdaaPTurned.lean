/- PageTurned is proved: a page of which one byte is turned isn't read; how many pages any bytes take is the document's; for every input, no conditions. -/
import Derived.Test.YtledmlndlpmgdaaPGet
import Derived.Test.YtledmlndlpmgdaaPMany
import Derived.Test.YtledmlndlpmgdaaSix
import Derived.ProofKit
import Derived.Lib.SmallJoins
namespace Go.Proofs.Ytledmlndlpmgdaa
open Go.RowKit Cr Me Pg

theorem pturned_long (f p at_ y s : Int) (A : Option Addr) (n c : Nat) (w : World) (hn : 112 < n) :
    Calls Try.prog 5 #[.int .u32 f, .int .u32 p, .slice A n c, .int .i64 at_, .int .u8 y, .int .i64 s] w fun e w' => e = .returned (.bool true) ∧ Below w.heap.size w w' := by
  have h1 : decide ((112 : Int) < (n : Int)) = true := by simp; omega
  go_enter Try.func5, Try.ntmps5
  go_wp2_with (go_at_call 6; refine (awake_any _).mono ?_; rintro e w1 ⟨rfl, rfl⟩)
  go_ret
  exact ⟨rfl, Below.refl _ _⟩
set_option maxRecDepth 100000 in
set_option maxHeartbeats 2000000 in
theorem pturned_law (f p : Reg) (at_ s : Int) (y : UInt8) (A : Option Addr) (n c : Nat) (b : List UInt8) (w : World) (hb : b.length = n) (hr : Rd w w.heap.size A b) (hn : n ≤ 112) (hs : s ≤ 9223372036854775807) :
    Calls Try.prog 5 #[.int .u32 (f.toNat : Int), .int .u32 (p.toNat : Int), .slice A n c, .int .i64 at_, .int .u8 (y.toNat : Int), .int .i64 s] w fun e w' => e = .returned (.bool true) ∧ Below w.heap.size w w' := by
  have h1 : decide ((112 : Int) < (n : Int)) = false := by simp; omega
  have hy8 := y.toNat_lt
  have HB := Lib.hid hb
  have HR := Lib.hid hr
  obtain ⟨z, hz⟩ : ∃ z, z = manyZ s := ⟨_, rfl⟩
  have HZ := Lib.hid hz
  have HEN := Lib.hid (enc_length (f := f) (p := p) (show b.length ≤ 112 by omega))
  clear hb hr hz
  go_enter Try.func5, Try.ntmps5
  go_wp2_with fail
  refine (many_any s w hs).mono ?_
  rw [← HZ.out]
  rintro e w1 ⟨rfl, rfl⟩
  go_wp2_with fail
  refine (ref_many_any s w hs).mono ?_
  rw [← HZ.out]
  rintro e w1 ⟨rfl, rfl⟩
  go_wp2_with fail
  refine (pput_good f p A n c b w HB.out hn HR.out).mono ?_
  intro e w3 h
  obtain ⟨X, n3, c3, rfl, hl3, hc3, ho3, hr3, hb3⟩ := h.open
  have hn3 : n3 = 128 := by rw [← hl3]; exact HEN.out
  subst hn3
  have HO3 := Lib.hid ho3
  have HB3 := Lib.hid hb3
  clear hl3 ho3 hr3 hb3 h
  by_cases hin : 0 ≤ at_ ∧ at_ < 128 ∧ y.toNat ≠ 0
  · obtain ⟨hin1, hin2, hy0⟩ := hin
    obtain ⟨i, rfl⟩ := Int.eq_ofNat_of_zero_le hin1
    have hi : i < 128 := by omega
    have d1 : ((y.toNat : Int) == 0) = false := by rw [beq_eq_false_iff_ne]; omega
    have d2 : decide ((i : Int) < 0) = false := by simp
    have d3 : decide ((128 : Int) ≤ (i : Int)) = false := by simp; omega
    obtain ⟨g3, cap, hA3, -, -⟩ := HO3.out.form (by omega)
    injection hA3 with hA3 _ hcap
    subst hA3 hcap
    obtain ⟨u, hu, hcu, hfu⟩ := own_at HO3.out hi
    have hu8 := u.toNat_lt
    have hset := own_set HO3.out i (u ^^^ y)
    rw [← xor_u8] at hset
    have HX3 := Lib.hid hset
    have HB4 := Lib.hid (HB3.out.grown hset.2 HB3.out.size (fun g e => by injection e with e; subst e; exact (HO3.out.lt _ rfl).1))
    have HT := Lib.hid (getP_turned (f' := f) (p' := p) (show b.length ≤ 112 by have := HB.out; omega) hu (show y ≠ 0 from fun e => hy0 (by rw [e]; rfl)))
    have HLS := Lib.hid (show ((enc f p b).set i (u ^^^ y)).length = 128 by rw [List.length_set]; exact HEN.out)
    clear hu hset hy0
    go_wp2_with fail
    refine (pget_any f p (some ⟨g3, 0, none⟩) 128 c3 ((enc f p b).set i (u ^^^ y)) _ HLS.out hc3 (Rd.of_own HX3.out.1)).mono ?_
    rw [HT.out]
    rintro e w6 ⟨hb6, Y, m6, dd, rfl, hm6, -, -, -⟩
    have em : m6 = 0 := by have h1 : ([] : List UInt8).length = m6 := hm6; exact h1.symm
    subst em
    have HB6 := Lib.hid (HB4.out.trans (Below.mono hb6 HB4.out.size))
    clear hb6 hm6 hcu hfu
    go_wp2_with (go_at_call 6; refine (awake_any _).mono ?_; rintro e w8 ⟨rfl, rfl⟩)
    go_ret
    exact ⟨rfl, HB6.out⟩
  · by_cases hneg : at_ < 0
    · have d2 : decide (at_ < 0) = true := by simp; omega
      clear hin
      go_wp2_with (go_at_call 6; refine (awake_any _).mono ?_; rintro e w8 ⟨rfl, rfl⟩)
      go_ret
      exact ⟨rfl, HB3.out⟩
    · have d2 : decide (at_ < 0) = false := by simp; omega
      by_cases hbig : 128 ≤ at_
      · have d3 : decide ((128 : Int) ≤ at_) = true := by simp; omega
        clear hin
        go_wp2_with (go_at_call 6; refine (awake_any _).mono ?_; rintro e w8 ⟨rfl, rfl⟩)
        go_ret
        exact ⟨rfl, HB3.out⟩
      · have d3 : decide ((128 : Int) ≤ at_) = false := by simp; omega
        have d1 : ((y.toNat : Int) == 0) = true := by rw [beq_iff_eq]; omega
        clear hin
        go_wp2_with (go_at_call 6; refine (awake_any _).mono ?_; rintro e w8 ⟨rfl, rfl⟩)
        go_ret
        exact ⟨rfl, HB3.out⟩
open Go.ChangeShapes Go.WideShapes Go.ChangeAt Go.Joins
set_option maxRecDepth 100000 in
theorem pageTurned_lifted (os : Os) (started : os.Started) (H : Type) (enc : TypeId × Value → H) :
    ReturnsInHanded {} Try.checked os 5 .any (Rows.pageTurnedSpec.pre6 enc Try.prog Try.f5 Rows.pageTurnedRow.domain false) (Rows.pageTurnedSpec.post enc Try.prog Try.f5 false true false false) := by
  refine returnsInHanded_of_change (C := Try.checked) own started (by kernel_rfl) Try.func5
    (ChangeSpec.witness6 (enc := enc) (C := Try.checked) false ⟨#[], #[.int .u32 0, .int .u32 0, .slice none 0 0, .int .i64 0, .int .u8 0, .int .i64 0], []⟩ 8 (by kernel_rfl) (by kernel_rfl) (by kernel_rfl) (by kernel_rfl)) ?_
  intro W base args ds gs before hval0 hW hcnd _
  have hval : ∀ (j : Nat) t v, Try.f5.params[j]? = some t → args[j]? = some v → Value.okWide Try.prog W .any base t v := hval0
  have hW' := hW
  obtain ⟨p, q, hA0, hV, rfl, hfz, hnd⟩ := hW
  have hA : DataW.TrodAll enc Try.prog W 0 (fun _ => true) true Try.f5.params.toList args.toList ds p := hA0
  rw [Try.params5] at hA hval
  obtain ⟨v0, v1, v2, v3, v4, v5, d0, d1, d2, d3, d4, d5, p0, p1, p2, p3, p4, p5, rfl, rfl, rfl, h0, h1, h2, h3, h4, h5⟩ := Lw.trodAll_six hA
  obtain ⟨f_, rfl, -, -, wf⟩ := open_int Try.underlying22 (hval 0 22 v0 rfl rfl) h0
  obtain ⟨p_, rfl, -, -, wp⟩ := open_int Try.underlying22 (hval 1 22 v1 rfl rfl) h1
  obtain ⟨A, n, c, b, rfl, hk, hc, hc63, hr⟩ := open_bytes Try.underlying23 Try.underlying5 cells_u8 (hval 2 23 v2 rfl rfl) h2
  obtain ⟨at_, rfl, -, -, -⟩ := open_int Try.underlying3 (hval 3 3 v3 rfl rfl) h3
  obtain ⟨y, rfl, -, -, wy⟩ := open_int Try.underlying5 (hval 4 5 v4 rfl rfl) h4
  obtain ⟨s, rfl, -, -, ws⟩ := open_int Try.underlying3 (hval 5 3 v5 rfl rfl) h5
  obtain ⟨f, rfl⟩ := reg_of (z := f_) (by simp [Lit.wf, IntKind.min, IntKind.max, IntKind.bits, IntKind.signed] at wf; omega)
  obtain ⟨r, rfl⟩ := reg_of (z := p_) (by simp [Lit.wf, IntKind.min, IntKind.max, IntKind.bits, IntKind.signed] at wp; omega)
  have hy : 0 ≤ y ∧ y < 256 := by simp [Lit.wf, IntKind.min, IntKind.max, IntKind.bits, IntKind.signed] at wy; omega
  have hy8 : y = ((UInt8.ofNat y.toNat).toNat : Int) := by rw [UInt8.toNat_ofNat']; omega
  have hs : s ≤ 9223372036854775807 := by simp [Lit.wf, IntKind.min, IntKind.max, IntKind.bits, IntKind.signed] at ws; omega
  have hwalk : Calls Try.prog 5 #[.int .u32 (f.toNat : Int), .int .u32 (r.toNat : Int), .slice A n c, .int .i64 at_, .int .u8 y, .int .i64 s] W fun e w' => e = .returned (.bool true) ∧ Below W.heap.size W w' := by
    by_cases hn : 112 < n
    · exact pturned_long _ _ _ _ _ A n c W hn
    · rw [hy8]
      exact pturned_law f r at_ s _ A n c b W hk hr (by omega) hs
  refine hwalk.mono fun e W' ⟨he, hb⟩ => ?_
  subst he
  exact ⟨_, rfl, Lw.post_true laidOut (by kernel_rfl) rfl rfl rfl rfl (by kernel_rfl) Try.underlying4 hW' hb⟩

/-- PageTurned: a page of which one byte is turned isn't read; how many pages any bytes take is the document's. -/
theorem pageTurned_holds : Rows.PageTurnedSaid :=
  OpenClaim.holds_of_wide 5 Try.f5 rfl rfl rfl rfl rfl rfl rfl ⟨rfl, rfl, rfl, rfl, rfl⟩ rfl rfl rfl rfl rfl (by kernel_rfl) Try.func5 (by kernel_rfl)
    (of_decide_eq_true (by kernel_rfl)) (by unfold Func.isWrapper; rw [if_neg (of_decide_eq_false (by kernel_rfl))]; exact ⟨rfl, rfl⟩)
    (fun os started H enc _ => pageTurned_lifted os started H enc)
#print axioms pageTurned_holds
end Go.Proofs.Ytledmlndlpmgdaa
