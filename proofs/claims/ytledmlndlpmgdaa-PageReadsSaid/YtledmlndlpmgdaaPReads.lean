/- PageReads is proved: the bytes of any block, as any page, or the error, are the document's; for every input, no conditions. -/
import Derived.Test.YtledmlndlpmgdaaPGet
import Derived.Test.YtledmlndlpmgdaaPMany
import Derived.Test.YtledmlndlpmgdaaLaw
import Derived.ProofKit
import Derived.Lib.SmallJoins
namespace Go.Proofs.Ytledmlndlpmgdaa
open Go.RowKit Cr Me Pg

theorem preads_long (f p : Int) (A : Option Addr) (n c : Nat) (w : World) (hn : 300 < n) :
    Calls Try.prog 4 #[.slice A n c, .int .u32 f, .int .u32 p] w fun e w' => e = .returned (.bool true) ∧ Below w.heap.size w w' := by
  have h1 : decide ((300 : Int) < (n : Int)) = true := by simp; omega
  go_enter Try.func4, Try.ntmps4
  go_wp2_with (go_at_call 6; refine (awake_any _).mono ?_; rintro e w1 ⟨rfl, rfl⟩)
  go_ret
  exact ⟨rfl, Below.refl _ _⟩
set_option maxRecDepth 100000 in
set_option maxHeartbeats 1000000 in
theorem preads_law (f p : Reg) (A : Option Addr) (n c : Nat) (k : List UInt8) (w : World) (hl : k.length = n) (hc : n ≤ c) (hr : Rd w w.heap.size A k) (hn : n ≤ 300) :
    Calls Try.prog 4 #[.slice A n c, .int .u32 (f.toNat : Int), .int .u32 (p.toNat : Int)] w fun e w' => e = .returned (.bool true) ∧ Below w.heap.size w w' := by
  have h1 : decide ((300 : Int) < (n : Int)) = false := by simp; omega
  obtain ⟨l, z, hR⟩ : ∃ l z, getP k f p = (l, z) := ⟨_, _, rfl⟩
  have HG := Lib.hid hR
  have HL := Lib.hid hl
  have HR := Lib.hid hr
  clear hl hr hR
  go_enter Try.func4, Try.ntmps4
  go_wp2_with fail
  refine (pget_any f p A n c k w HL.out hc HR.out).mono ?_
  rw [HG.out]
  rintro e w1 ⟨hb1, X1, n1, c1, rfl, hl1, -, hr1, -⟩
  have HB1 := Lib.hid hb1
  have HL1 := Lib.hid hl1
  have HR1 := Lib.hid hr1
  clear hb1 hl1 hr1
  go_wp2_with fail
  refine (ref_pget_any f p A n c k w1 HL.out hc ((HR.out.below HB1.out).more HB1.out.size)).mono ?_
  rw [HG.out]
  rintro e w2 ⟨hb2, X2, n2, c2, rfl, hl2, -, hr2, -⟩
  have HB2 := Lib.hid (HB1.out.trans (hb2.mono HB1.out.size))
  have k1 := str_any X1 n1 c1 l w2 _ HL1.out (HR1.out.below hb2)
  have k2 := str_any X2 n2 c2 l w2 _ hl2 hr2
  clear hb2 hl2 hr2
  go_wp2_with (go_at_call 6; refine (awake_any _).mono ?_; rintro e w3 ⟨rfl, rfl⟩)
  go_ret
  exact ⟨rfl, HB2.out⟩
open Go.ChangeShapes Go.WideShapes Go.ChangeAt Go.Joins
set_option maxRecDepth 100000 in
theorem pageReads_lifted (os : Os) (started : os.Started) (H : Type) (enc : TypeId × Value → H) :
    ReturnsInHanded {} Try.checked os 4 .any (Rows.pageReadsSpec.pre6 enc Try.prog Try.f4 Rows.pageReadsRow.domain false) (Rows.pageReadsSpec.post enc Try.prog Try.f4 false true false false) := by
  refine returnsInHanded_of_change (C := Try.checked) own started (by kernel_rfl) Try.func4
    (ChangeSpec.witness6 (enc := enc) (C := Try.checked) false ⟨#[], #[.slice none 0 0, .int .u32 0, .int .u32 0], []⟩ 8 (by kernel_rfl) (by kernel_rfl) (by kernel_rfl) (by kernel_rfl)) ?_
  intro W base args ds gs before hval0 hW hcnd _
  have hval : ∀ (j : Nat) t v, Try.f4.params[j]? = some t → args[j]? = some v → Value.okWide Try.prog W .any base t v := hval0
  have hW' := hW
  obtain ⟨p, q, hA0, hV, rfl, hfz, hnd⟩ := hW
  have hA : DataW.TrodAll enc Try.prog W 0 (fun _ => true) true Try.f4.params.toList args.toList ds p := hA0
  rw [Try.params4] at hA hval
  obtain ⟨v0, v1, v2, d0, d1, d2, p0, p1, p2, rfl, rfl, rfl, h0, h1, h2⟩ := trodAll_three hA
  obtain ⟨A, n, c, k, rfl, hk, hc, hc63, hr⟩ := open_bytes Try.underlying23 Try.underlying5 cells_u8 (hval 0 23 v0 rfl rfl) h0
  obtain ⟨f_, rfl, -, -, wf⟩ := open_int Try.underlying22 (hval 1 22 v1 rfl rfl) h1
  obtain ⟨p_, rfl, -, -, wp⟩ := open_int Try.underlying22 (hval 2 22 v2 rfl rfl) h2
  obtain ⟨f, rfl⟩ := reg_of (z := f_) (by simp [Lit.wf, IntKind.min, IntKind.max, IntKind.bits, IntKind.signed] at wf; omega)
  obtain ⟨r, rfl⟩ := reg_of (z := p_) (by simp [Lit.wf, IntKind.min, IntKind.max, IntKind.bits, IntKind.signed] at wp; omega)
  have hwalk : Calls Try.prog 4 #[.slice A n c, .int .u32 (f.toNat : Int), .int .u32 (r.toNat : Int)] W fun e w' => e = .returned (.bool true) ∧ Below W.heap.size W w' := by
    by_cases hn : 300 < n
    · exact preads_long _ _ A n c W hn
    · exact preads_law f r A n c k W hk hc hr (by omega)
  refine hwalk.mono fun e W' ⟨he, hb⟩ => ?_
  subst he
  exact ⟨_, rfl, Lw.post_true laidOut (by kernel_rfl) rfl rfl rfl rfl (by kernel_rfl) Try.underlying4 hW' hb⟩

/-- PageReads: the bytes of any block, as any page, or the error, are the document's. -/
theorem pageReads_holds : Rows.PageReadsSaid :=
  OpenClaim.holds_of_wide 4 Try.f4 rfl rfl rfl rfl rfl rfl rfl ⟨rfl, rfl, rfl, rfl, rfl⟩ rfl rfl rfl rfl rfl (by kernel_rfl) Try.func4 (by kernel_rfl)
    (of_decide_eq_true (by kernel_rfl)) (by unfold Func.isWrapper; rw [if_neg (of_decide_eq_false (by kernel_rfl))]; exact ⟨rfl, rfl⟩)
    (fun os started H enc _ => pageReads_lifted os started H enc)
#print axioms pageReads_holds
end Go.Proofs.Ytledmlndlpmgdaa
