/- VarintOne is proved: bytes that are one number are just its bytes; for every input, no conditions. -/
import Derived.Test.YtclflenaehhbjaaRds
namespace Go.Proofs.Ytclflenaehhbjaa
open Go.RowKit Me Va

/-- What is known of each slot of the last region. -/
def oneG (A : Option Addr) (n c y : Nat) (l : List UInt8) : Gw.Fact := fun t v w =>
  match t with
  | 0 | 25 => v = .slice A n c
  | 4 | 22 => v = .int .u64 (y : Int)
  | 23 => ∃ X m d, v = .slice X m d ∧ l.length = m ∧ Rd w w.heap.size X l
  | 24 | 26 => v = .string ⟨l.toArray⟩
  | 27 | 28 | 29 | 30 | 2 => v = .bool true
  | _ => True
/-- Bytes that are one number. -/
theorem num_whole {l l' : List UInt8} {y : Nat} {x' : Int} (h : numOf l 0 top = (y, l', x')) (he : endOf l' x' = 0) : l ≠ [] ∧ enc y = l := by
  unfold numOf at h
  rw [if_neg (by simp)] at h
  rcases hp : pars 0 0 l with ⟨z, k, e⟩
  rw [hp] at h
  have hb := pars_bounds l 0 0 z k e hp
  have hf := pars_fits hp
  by_cases h0 : e = 0
  · rw [if_neg (by simpa using h0)] at h
    have hm : ¬ top < z := by unfold top; omega
    rw [if_neg hm] at h
    simp only [Prod.mk.injEq] at h
    obtain ⟨rfl, rfl, rfl⟩ := h
    unfold endOf at he
    have hk : ¬ 0 < (l.drop k).length := by
      intro hlt
      rw [if_pos ⟨rfl, hlt⟩] at he
      cases he
    rw [List.length_drop] at hk
    have hkl : k = l.length := by omega
    subst h0 hkl
    exact ⟨fun e => by subst e; simp at hb, enc_whole hp⟩
  · rw [if_pos h0] at h
    simp only [Prod.mk.injEq] at h
    obtain ⟨rfl, rfl, rfl⟩ := h
    unfold endOf at he
    rw [if_neg (by simp)] at he
    exact absurd he h0
set_option maxHeartbeats 1000000 in
theorem one_law (A : Option Addr) (n c : Nat) (l : List UInt8) (w : World) (hl : l.length = n) (hn : n ≤ 100) (hr : Rd w w.heap.size A l) :
    Calls Try.prog 5 #[.slice A n c] w fun e w' => e = .returned (.bool true) ∧ Below w.heap.size w w' := by
  have d1 : decide ((100 : Int) < (n : Int)) = false := by simp; omega
  have HL := Lib.hid hl
  have HR := Lib.hid hr
  clear hl hr
  go_enter Try.func5, Try.ntmps5
  go_wp2_with fail
  refine (new_any A n c l w HL.out (by omega) HR.out).mono ?_
  rintro e w1 ⟨g, rfl, hg1, hg2, hrd, hb⟩
  have HRD := Lib.hid hrd
  have HB := Lib.hid hb
  have HG1 := Lib.hid hg1
  clear hrd hb hg1
  go_wp2_with fail
  obtain ⟨y, l', x', hnum⟩ : ∃ y l' x', numOf l 0 top = (y, l', x') := ⟨_, _, _, rfl⟩
  have hy : y < 18446744073709551616 := by have := numOf_fits l 0 top; rw [hnum] at this; exact this
  have HNUM := Lib.hid hnum
  have HY := Lib.hid hy
  clear hnum hy
  rw [top_int]
  refine (num_any g l 0 top w1 HRD.out).mono ?_
  rw [HNUM.out]
  rintro e w2 ⟨rfl, hr2, hg⟩
  have HR2 := Lib.hid hr2
  have HB2 := Lib.hid (HB.out.grown hg HB.out.size (fun k hk => by cases hk; exact HG1.out))
  clear hr2 hg HRD HB
  go_wp2_with fail
  refine (end_any g l' x' w2 HR2.out).mono ?_
  rintro e w' ⟨rfl, rfl⟩
  by_cases he : endOf l' x' = 0
  · obtain ⟨hne, henc⟩ := num_whole HNUM.out he
    rw [he]
    have hn0 : 0 < n := by
      rw [← HL.out]
      exact List.length_pos_iff.2 hne
    have d3 : ((n : Int) == 0) = false := by rw [beq_eq_false_iff_ne]; omega
    have HENC := Lib.hid henc
    clear he hne henc
    go_wp2_with fail
    have HRW := Lib.hid ((HR.out.below HB2.out).more HB2.out.size)
    refine Gw.wp_region_grow (oneG A n c y l) [22, 23, 24, 25, 26, 27, 28, 29, 30, 2] [([4], none), ([22], none), ([23], none), ([0], none), ([25], none), ([24, 26], none), ([27], none), ([28], some (28, true)), ([28, 29], none), ([30], none)] 31 (by kernel_rfl) (by kernel_rfl) rfl ?h0 ?hreq ?hend
    case h0 =>
      intro t W hnd _
      unfold oneG
      split <;> first | rfl | trivial | exact absurd (by simp) hnd
    case hreq =>
      refine ⟨?_, ?_, ?_, ?_, ?_, ?_, ?_, ?_, ?_, ?_, trivial⟩
      all_goals
        intro a W hg hk
        have k1 := str_any A n c l W _ HL.out (HRW.out.below hg)
        simp only [Gw.Knows, oneG] at hk
        try (simp [go_sem, Gw.OpReq, Gw.Ok, Gw.Post, Gw.Holds, oneG, Gw.Grows.refl, hk, k1]; done)
      · simp [go_sem, Gw.OpReq, Gw.Ok, Gw.Post, Gw.Holds, oneG, Gw.Grows.refl, hk]
        refine (put_any none 0 0 y [] W rfl (by omega) Rd.empty HY.out).mono ?_
        intro e w5 h
        obtain ⟨X, m, d, rfl, hl5, -, -, hr5, hb5⟩ := h.open
        rw [List.nil_append, HENC.out] at hl5 hr5
        exact ⟨_, rfl, hb5, fun W2 hW2 => ⟨X, m, ⟨d, rfl⟩, hl5, (hr5.below hW2).more (Below.size hW2)⟩⟩
      · obtain ⟨⟨X, m, d, he, hl5, hr5⟩, -⟩ := hk
        have k6 := str_any X m d l W _ hl5 hr5
        simp [go_sem, Gw.OpReq, Gw.Ok, Gw.Post, Gw.Holds, oneG, Gw.Grows.refl, he, k6]
      · simp [go_sem, Gw.OpReq, Gw.Ok, Gw.Post, Gw.Holds, oneG, Gw.Grows.refl, hk]
        refine (awake_any W).mono ?_
        rintro e w5 ⟨rfl, hb⟩
        exact ⟨_, rfl, hb, fun _ _ => rfl⟩
    case hend =>
      intro x w' hg hx
      have h4 : x 2 = .bool true := (hx 2 (by simp)).now
      simp only [Gw.putAll, Act.put, List.setIfInBounds_toArray, List.set_cons_zero, List.set_cons_succ]
      rw [h4]
      go_wp2
      go_ret
      exact ⟨rfl, HB2.out.trans (Below.mono hg HB2.out.size)⟩
  · have d3 : (endOf l' x' != 0) = true := by rw [bne_iff_ne]; exact he
    clear he
    go_wp2_with (go_at_call 7; refine (awake_any _).mono ?_; rintro e w3 ⟨rfl, hb3⟩)
    go_ret
    exact ⟨rfl, HB2.out.trans (hb3.mono HB2.out.size)⟩
theorem one_long (A : Option Addr) (n c : Nat) (w : World) (hn : 100 < n) :
    Calls Try.prog 5 #[.slice A n c] w fun e w' => e = .returned (.bool true) ∧ Below w.heap.size w w' := by
  have h1 : decide ((100 : Int) < (n : Int)) = true := by simp; omega
  go_enter Try.func5, Try.ntmps5
  go_wp2_with (go_at_call 7; refine (awake_any _).mono ?_; rintro e w1 ⟨rfl, hb⟩)
  go_ret
  exact ⟨rfl, hb⟩
open Go.ChangeShapes Go.WideShapes Go.ChangeAt Go.Joins
set_option maxRecDepth 100000 in
theorem varintOne_lifted (os : Os) (started : os.Started) (H : Type) (enc : TypeId × Value → H) :
    ReturnsInHanded {} Try.checked os 5 .any (Rows.varintOneSpec.pre6 enc Try.prog Try.f5 Rows.varintOneRow.domain false) (Rows.varintOneSpec.post enc Try.prog Try.f5 false true false false) := by
  refine returnsInHanded_of_change (C := Try.checked) own started (by kernel_rfl) Try.func5
    (ChangeSpec.witness6 (enc := enc) (C := Try.checked) false ⟨#[], #[.slice none 0 0], []⟩ 8 (by kernel_rfl) (by kernel_rfl) (by kernel_rfl) (by kernel_rfl)) ?_
  intro W base args ds gs before hval0 hW hcnd _
  have hval : ∀ (j : Nat) t v, Try.f5.params[j]? = some t → args[j]? = some v → Value.okWide Try.prog W .any base t v := hval0
  have hW' := hW
  obtain ⟨p, q, hA0, hV, rfl, hfz, hnd⟩ := hW
  have hA : DataW.TrodAll enc Try.prog W 0 (fun _ => true) true Try.f5.params.toList args.toList ds p := hA0
  rw [Try.params5] at hA hval
  obtain ⟨v0, d0, rfl, rfl, h0⟩ := trodAll_one hA
  obtain ⟨A, n, c, l, rfl, hl, hc, hc63, hr⟩ := open_bytes Try.underlying22 Try.underlying5 cells_u8 (hval 0 22 v0 rfl rfl) h0
  have hwalk : Calls Try.prog 5 #[.slice A n c] W fun e w' => e = .returned (.bool true) ∧ Below W.heap.size W w' := by
    by_cases h : 100 < n
    · exact one_long A n c W h
    · exact one_law A n c l W hl (by omega) hr
  refine hwalk.mono fun e W' ⟨he, hb⟩ => ?_
  subst he
  exact ⟨_, rfl, Lw.post_true laidOut (by kernel_rfl) rfl rfl rfl rfl (by kernel_rfl) Try.underlying4 hW' hb⟩

/-- VarintOne: bytes that are one number are just its bytes. -/
theorem varintOne_holds : Rows.VarintOneSaid :=
  OpenClaim.holds_of_wide 5 Try.f5 rfl rfl rfl rfl rfl rfl rfl ⟨rfl, rfl, rfl, rfl, rfl⟩ rfl rfl rfl rfl rfl (by kernel_rfl) Try.func5 (by kernel_rfl)
    (of_decide_eq_true (by kernel_rfl)) (by unfold Func.isWrapper; rw [if_neg (of_decide_eq_false (by kernel_rfl))]; exact ⟨rfl, rfl⟩)
    (fun os started H enc _ => varintOne_lifted os started H enc)
#print axioms varintOne_holds
end Go.Proofs.Ytclflenaehhbjaa
