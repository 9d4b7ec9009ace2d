/- CrcFits is proved: any bytes with their sum are the document's, and fit; whether any bytes fit is the document's; for every input, no conditions. -/
import Derived.Test.YteonfodeddaoiaaSums
import Derived.Test.YteonfodeddaoiaaGrow
namespace Go.Proofs.Yteonfodeddaoiaa
open Go.RowKit Cr Me

/-- Whether bytes fit. -/
def fitB (l : List UInt8) : Bool := decide (4 ≤ l.length) && (Cr.mark (l.take (l.length - 4)) == l)
def fitL (l : List UInt8) : List UInt8 := if fitB l then l.take (l.length - 4) else []
def fitC (l : List UInt8) : Int := if l.length < 4 then 2 else if fitB l then 0 else 5
theorem fitB_mark (l : List UInt8) : fitB (Cr.mark l) = true := by
  unfold fitB
  rw [mark_length]
  have e : (Cr.mark l).take (l.length + 4 - 4) = l := by unfold Cr.mark; simp
  rw [e]
  simp
theorem fitL_mark (l : List UInt8) : fitL (Cr.mark l) = l := by
  unfold fitL
  rw [fitB_mark, if_pos rfl, mark_length]
  unfold Cr.mark; simp
theorem fitC_mark (l : List UInt8) : fitC (Cr.mark l) = 0 := by
  unfold fitC
  rw [fitB_mark, if_pos rfl, mark_length, if_neg (by omega)]
/-- What a call answers that tells bytes and a number. -/
def Tells (w : World) (l : List UInt8) (code : Int) (e : Ending) (w' : World) : Prop :=
  Below w.heap.size w w' ∧ ∃ X n c, e = .returned (.tuple #[.slice X n c, .int .i64 code]) ∧ l.length = n ∧ n ≤ 140737488355328 ∧ Rd w' w'.heap.size X l
theorem fitB_of {l : List UInt8} {k : Nat} (hl : l.length = k + 4) : fitB l = (Cr.mark (l.take k) == l) := by
  unfold fitB
  rw [hl]
  simp
theorem fits_all (A : Option Addr) (n c : Nat) (l : List UInt8) (w : World) (hl : l.length = n) (hc : n ≤ c) (hn : n ≤ 70368744177664) (hr : Rd w w.heap.size A l) :
    Calls Try.prog 11 #[.slice A n c] w fun e w' => Tells w (fitL l) (fitC l) e w' := by
  by_cases h4 : n < 4
  · refine (fits_short A n c w h4).mono fun e w' ⟨he, hw⟩ => ?_
    subst hw
    have hb : fitB l = false := by unfold fitB; simp; omega
    exact ⟨Below.refl _ _, none, 0, 0, by rw [he]; unfold fitC; rw [if_pos (by omega)], by unfold fitL; rw [hb]; rfl, by omega, by unfold fitL; rw [hb]; exact Rd.empty⟩
  · obtain ⟨k, rfl⟩ : ∃ k, n = k + 4 := ⟨n - 4, by omega⟩
    obtain ⟨a, rfl, -⟩ := hr (by omega)
    have hf := fitB_of hl
    refine (fits_long a k c l w hl hc (by omega) hr _ rfl).mono fun e w' ⟨hb, h⟩ => ?_
    rw [← hf] at h
    cases hfb : fitB l with
    | false =>
      rw [hfb] at h
      have he : e = .returned (.tuple #[.slice none 0 0, .int .i64 5]) := h
      exact ⟨hb, none, 0, 0, by rw [he]; unfold fitC; rw [if_neg (by omega), hfb]; rfl, by unfold fitL; rw [hfb]; rfl, by omega, by unfold fitL; rw [hfb]; exact Rd.empty⟩
    | true =>
      rw [hfb] at h
      obtain ⟨v, he, ho⟩ : ∃ v, e = .returned (.tuple #[v, .int .i64 0]) ∧ w'.ownsRow w.heap.size 5 1 v k (cellsOf (l.take k)) := h
      obtain ⟨X, cx, rfl⟩ := own_slice ho
      have e1 : fitL l = l.take k := by unfold fitL; rw [hfb, if_pos rfl, hl]; simp
      exact ⟨hb, X, k, cx, by rw [he]; unfold fitC; rw [if_neg (by omega), hfb]; rfl, by rw [e1, List.length_take]; omega, by omega, by rw [e1]; exact Rd.of_own ho⟩
theorem ref_fits_all (A : Option Addr) (n c : Nat) (l : List UInt8) (w : World) (hl : l.length = n) (hc : n ≤ c) (hn : n ≤ 70368744177664) (hr : Rd w w.heap.size A l) :
    Calls Try.prog 12 #[.slice A n c] w fun e w' => Tells w (fitL l) (fitC l) e w' := by
  by_cases h4 : n < 4
  · refine (ref_fits_short A n c w h4).mono fun e w' ⟨hb, X, cx, he, hx⟩ => ?_
    have hb2 : fitB l = false := by unfold fitB; simp; omega
    exact ⟨hb, X, 0, cx, by rw [he]; unfold fitC; rw [if_pos (by omega)]; rfl, by unfold fitL; rw [hb2]; rfl, by omega, by unfold fitL; rw [hb2]; exact Rd.empty⟩
  · obtain ⟨k, rfl⟩ : ∃ k, n = k + 4 := ⟨n - 4, by omega⟩
    obtain ⟨a, rfl, -⟩ := hr (by omega)
    have hf := fitB_of hl
    refine (ref_fits_long a k c l w hl hc (by omega) hr _ rfl).mono fun e w' ⟨hb, X, cx, he, hx⟩ => ?_
    rw [← hf] at he hx
    have e1 : fitL l = if fitB l = true then l.take k else [] := by unfold fitL; rw [hl]; simp
    have e2 : fitC l = if fitB l = true then 0 else 5 := by unfold fitC; rw [if_neg (by omega)]
    rw [← e1, ← e2] at he
    rw [← e1] at hx
    refine ⟨hb, X, _, cx, he, rfl, ?_, hx⟩
    rw [e1]
    split
    · rw [List.length_take]; omega
    · simp
/-- What is known of each slot of the last region. -/
def fitsG (A M X X3 X4 : Option Addr) (n c cm c2 n3 c3 n4 c4 : Nat) (l q : List UInt8) (z : Int) : Gw.Fact := fun t v w =>
  match t with
  | 0 => v = .slice A n c
  | 5 => v = .slice M (n + 4) cm
  | 6 => v = .slice X n c2
  | 7 => v = .int .i64 0
  | 8 => v = .slice X3 n3 c3
  | 9 => v = .int .i64 z
  | 10 => v = .slice X4 n4 c4
  | 11 => v = .int .i64 z
  | 38 => v = .slice M (n + 4) cm
  | 39 => v = .string ⟨(Cr.mark l).toArray⟩
  | 40 => v = .slice A n c
  | 41 => ∃ X5 c5, v = .slice X5 (n + 4) c5 ∧ Rd w w.heap.size X5 (Cr.mark l)
  | 42 => v = .string ⟨(Cr.mark l).toArray⟩
  | 45 => v = .int .i64 0
  | 49 => v = .slice X n c2
  | 50 => v = .string ⟨l.toArray⟩
  | 51 => v = .slice A n c
  | 52 => v = .string ⟨l.toArray⟩
  | 56 => v = .slice X3 n3 c3
  | 57 => v = .string ⟨q.toArray⟩
  | 58 => v = .slice X4 n4 c4
  | 59 => v = .string ⟨q.toArray⟩
  | 63 => v = .int .i64 z
  | 64 => v = .int .i64 z
  | 43 | 44 | 46 | 47 | 48 | 53 | 54 | 55 | 60 | 61 | 62 | 65 | 66 | 67 | 68 | 69 | 4 => v = .bool true
  | _ => True
set_option maxHeartbeats 1000000 in
theorem fits_law (A A' : Option Addr) (n c n' c' : Nat) (l l' : List UInt8) (w : World) (hl : l.length = n) (hn : n ≤ 1000) (hr : Rd w w.heap.size A l)
    (hl' : l'.length = n') (hc' : n' ≤ c') (hn' : n' ≤ 1000) (hr' : Rd w w.heap.size A' l') :
    Calls Try.prog 4 #[.slice A n c, .slice A' n' c'] w fun e w' => e = .returned (.bool true) ∧ Below w.heap.size w w' := by
  have HL := Lib.hid hl
  have HR := Lib.hid hr
  have HL' := Lib.hid hl'
  have HR' := Lib.hid hr'
  clear hl hr hl' hr'
  have d1 : decide ((1000 : Int) < (n : Int)) = false := by simp; omega
  have d2 : decide ((1000 : Int) < (n' : Int)) = false := by simp; omega
  go_enter Try.func4, Try.ntmps4
  go_wp2_with fail
  refine (mark_any A n c l w HL.out (by omega) HR.out).mono ?_
  rintro e w1 ⟨v1, rfl, ho1, hb1⟩
  obtain ⟨M, cm, rfl⟩ := own_slice ho1
  have HM := Lib.hid ((mark_length l).trans (by rw [HL.out]))
  have HRM := Lib.hid (Rd.of_own ho1)
  have HB1 := Lib.hid hb1
  have hcm : n + 4 ≤ cm := own_cap ho1 (by omega)
  clear ho1 hb1
  go_wp2_with fail
  refine (fits_all M (n + 4) cm (Cr.mark l) w1 HM.out hcm (by omega) HRM.out).mono ?_
  rw [fitL_mark, fitC_mark]
  rintro e w2 ⟨hb2, X, n2, c2, rfl, hx, hn2, hrx⟩
  have e2 : n2 = n := by rw [← hx, HL.out]
  subst e2
  have HB2 := Lib.hid (HB1.out.trans (hb2.mono HB1.out.size))
  have HRM2 := Lib.hid ((HRM.out.below hb2).more hb2.size)
  have HX := Lib.hid hrx
  clear hb2 hx hn2 hrx
  go_wp2_with fail
  obtain ⟨z, hz⟩ : ∃ z, z = fitC l' := ⟨_, rfl⟩
  obtain ⟨q, hq⟩ : ∃ q, q = fitL l' := ⟨_, rfl⟩
  have HZ := Lib.hid hz
  have HQ := Lib.hid hq
  clear hz hq
  refine (fits_all A' n' c' l' w2 HL'.out hc' (by omega) ((HR'.out.below HB2.out).more HB2.out.size)).mono ?_
  rw [← HZ.out, ← HQ.out]
  rintro e w3 ⟨hb3, X3, n3, c3, rfl, hx3, -, hrx3⟩
  have HB3 := Lib.hid (HB2.out.trans (hb3.mono HB2.out.size))
  have HRM3 := Lib.hid ((HRM2.out.below hb3).more hb3.size)
  have HX3 := Lib.hid ((HX.out.below hb3).more hb3.size)
  have HL3 := Lib.hid hx3
  have HY3 := Lib.hid hrx3
  clear hb3 hx3 hrx3 HRM2 HX
  go_wp2_with fail
  refine (ref_fits_all A' n' c' l' w3 HL'.out hc' (by omega) ((HR'.out.below HB3.out).more HB3.out.size)).mono ?_
  rw [← HZ.out, ← HQ.out]
  rintro e w4 ⟨hb4, X4, n4, c4, rfl, hx4, -, hrx4⟩
  have HB4 := Lib.hid (HB3.out.trans (hb4.mono HB3.out.size))
  have HRM4 := Lib.hid ((HRM3.out.below hb4).more hb4.size)
  have HX4 := Lib.hid ((HX3.out.below hb4).more hb4.size)
  have HY4 := Lib.hid ((HY3.out.below hb4).more hb4.size)
  have HL4 := Lib.hid hx4
  have HW4 := Lib.hid hrx4
  have HR4 := Lib.hid ((HR.out.below HB4.out).more HB4.out.size)
  clear hb4 hx4 hrx4 HRM3 HX3 HY3
  go_wp2_with fail
  refine Gw.wp_region_grow (fitsG A M X X3 X4 n2 c cm c2 n3 c3 n4 c4 l q z) [38, 39, 40, 41, 42, 43, 44, 45, 46, 47, 48, 49, 50, 51, 52, 53, 54, 55, 56, 57, 58, 59, 60, 61, 62, 63, 64, 65, 66, 67, 68, 69, 4] [([5], none), ([38], none), ([0], none), ([40], none), ([41], none), ([39, 42], none), ([43], none), ([7, 44], some (44, true)), ([45, 44], some (44, true)), ([44, 46], none), ([47], none), ([6, 48], some (48, true)), ([49, 48], some (48, true)), ([0, 48], some (48, true)), ([51, 48], some (48, true)), ([50, 52, 48], some (48, true)), ([48, 53], none), ([54], none), ([8, 55], some (55, true)), ([56, 55], some (55, true)), ([10, 55], some (55, true)), ([58, 55], some (55, true)), ([57, 59, 55], some (55, true)), ([55, 60], none), ([61], none), ([9, 62], some (62, true)), ([11, 62], some (62, true)), ([63, 64, 62], some (62, true)), ([62, 65], none), ([66], none), ([67], some (67, true)), ([67, 68], none), ([69], none)] 70 (by kernel_rfl) (by kernel_rfl) rfl ?h0 ?hreq ?hend
  case h0 =>
    intro t W hnd _
    unfold fitsG
    split <;> first | rfl | trivial | exact absurd (by simp) hnd
  case hreq =>
    refine ⟨?_, ?_, ?_, ?_, ?_, ?_, ?_, ?_, ?_, ?_, ?_, ?_, ?_, ?_, ?_, ?_, ?_, ?_, ?_, ?_, ?_, ?_, ?_, ?_, ?_, ?_, ?_, ?_, ?_, ?_, ?_, ?_, ?_, trivial⟩
    all_goals
      intro a W hg hk
      have k1 := str_any _ _ cm _ W _ HM.out (HRM4.out.below hg)
      have k2 := str_any _ _ c2 _ W _ HL.out (HX4.out.below hg)
      have k3 := str_any _ _ c _ W _ HL.out (HR4.out.below hg)
      have k4 := str_any _ _ c3 _ W _ HL3.out (HY4.out.below hg)
      have k5 := str_any _ _ c4 _ W _ HL4.out (HW4.out.below hg)
      simp only [Gw.Knows, fitsG] at hk
      try (simp [go_sem, Gw.OpReq, Gw.Ok, Gw.Post, Gw.Holds, fitsG, Gw.Grows.refl, hk, k1, k2, k3, k4, k5]; done)
    · simp [go_sem, Gw.OpReq, Gw.Ok, Gw.Post, Gw.Holds, fitsG, Gw.Grows.refl, hk]
      refine (ref_mark_any A n2 c l W HL.out (by omega) ((HR4.out.below hg).more (Below.size hg))).mono ?_
      rintro e w5 ⟨v5, rfl, ho, hb⟩
      obtain ⟨X5, c5, rfl⟩ := own_slice ho
      exact ⟨_, rfl, hb, fun W2 hW2 => ⟨X5, ⟨c5, rfl⟩, ((Rd.of_own ho).below hW2).more (Below.size hW2)⟩⟩
    · obtain ⟨⟨X5, c5, he, hr5⟩, -⟩ := hk
      have k6 := str_any X5 (n2 + 4) c5 _ W _ HM.out hr5
      simp [go_sem, Gw.OpReq, Gw.Ok, Gw.Post, Gw.Holds, fitsG, Gw.Grows.refl, he, k6]
    · simp [go_sem, Gw.OpReq, Gw.Ok, Gw.Post, Gw.Holds, fitsG, Gw.Grows.refl, hk]
      refine (awake_any W).mono ?_
      rintro e w5 ⟨rfl, hb⟩
      exact ⟨_, rfl, hb, fun _ _ => rfl⟩
  case hend =>
    intro x w' hg hx
    have h4 : x 4 = .bool true := (hx 4 (by simp)).now
    simp only [Gw.putAll, Act.put, List.setIfInBounds_toArray, List.set_cons_zero, List.set_cons_succ]
    rw [h4]
    go_wp2
    go_ret
    exact ⟨rfl, HB4.out.trans (Below.mono hg HB4.out.size)⟩
theorem fits_long_law (A A' : Option Addr) (n c n' c' : Nat) (w : World) (hn : 1000 < n ∨ 1000 < n') :
    Calls Try.prog 4 #[.slice A n c, .slice A' n' c'] w fun e w' => e = .returned (.bool true) ∧ Below w.heap.size w w' := by
  by_cases h : 1000 < n
  · have h1 : decide ((1000 : Int) < (n : Int)) = true := by simp; omega
    go_enter Try.func4, Try.ntmps4
    go_wp2_with (go_at_call 7; refine (awake_any _).mono ?_; rintro e w1 ⟨rfl, hb⟩)
    go_ret
    exact ⟨rfl, hb⟩
  · have h1 : decide ((1000 : Int) < (n : Int)) = false := by simp; omega
    have h2 : decide ((1000 : Int) < (n' : Int)) = true := by simp; omega
    go_enter Try.func4, Try.ntmps4
    go_wp2_with (go_at_call 7; refine (awake_any _).mono ?_; rintro e w1 ⟨rfl, hb⟩)
    go_ret
    exact ⟨rfl, hb⟩
open Go.ChangeShapes Go.WideShapes Go.ChangeAt Go.Joins
set_option maxRecDepth 100000 in
theorem crcFits_lifted (os : Os) (started : os.Started) (H : Type) (enc : TypeId × Value → H) :
    ReturnsInHanded {} Try.checked os 4 .any (Rows.crcFitsSpec.pre6 enc Try.prog Try.f4 Rows.crcFitsRow.domain false) (Rows.crcFitsSpec.post enc Try.prog Try.f4 false true false false) := by
  refine returnsInHanded_of_change (C := Try.checked) own started (by kernel_rfl) Try.func4
    (ChangeSpec.witness6 (enc := enc) (C := Try.checked) false ⟨#[], #[.slice none 0 0, .slice none 0 0], []⟩ 8 (by kernel_rfl) (by kernel_rfl) (by kernel_rfl) (by kernel_rfl)) ?_
  intro W base args ds gs before hval0 hW hcnd _
  have hval : ∀ (j : Nat) t v, Try.f4.params[j]? = some t → args[j]? = some v → Value.okWide Try.prog W .any base t v := hval0
  have hW' := hW
  obtain ⟨p, q, hA0, hV, rfl, hfz, hnd⟩ := hW
  have hA : DataW.TrodAll enc Try.prog W 0 (fun _ => true) true Try.f4.params.toList args.toList ds p := hA0
  rw [Try.params4] at hA hval
  obtain ⟨v0, v1, d0, d1, p0, p1, rfl, rfl, rfl, h0, h1⟩ := trodAll_two hA
  obtain ⟨A, n, c, l, rfl, hl, hc, hc63, hr⟩ := open_bytes Try.underlying22 Try.underlying5 cells_u8 (hval 0 22 v0 rfl rfl) h0
  obtain ⟨A', n', c', l', rfl, hl', hc', hc63', hr'⟩ := open_bytes Try.underlying22 Try.underlying5 cells_u8 (hval 1 22 v1 rfl rfl) h1
  have hwalk : Calls Try.prog 4 #[.slice A n c, .slice A' n' c'] W fun e w' => e = .returned (.bool true) ∧ Below W.heap.size W w' := by
    by_cases h : 1000 < n ∨ 1000 < n'
    · exact fits_long_law A A' n c n' c' W h
    · exact fits_law A A' n c n' c' l l' W hl (by omega) hr hl' hc' (by omega) hr'
  refine hwalk.mono fun e W' ⟨he, hb⟩ => ?_
  subst he
  exact ⟨_, rfl, Lw.post_true laidOut (by kernel_rfl) rfl rfl rfl rfl (by kernel_rfl) Try.underlying4 hW' hb⟩

/-- CrcFits: any bytes with their sum are the document's, and fit; whether any bytes fit is the document's. -/
theorem crcFits_holds : Rows.CrcFitsSaid :=
  OpenClaim.holds_of_wide 4 Try.f4 rfl rfl rfl rfl rfl rfl rfl ⟨rfl, rfl, rfl, rfl, rfl⟩ rfl rfl rfl rfl rfl (by kernel_rfl) Try.func4 (by kernel_rfl)
    (of_decide_eq_true (by kernel_rfl)) (by unfold Func.isWrapper; rw [if_neg (of_decide_eq_false (by kernel_rfl))]; exact ⟨rfl, rfl⟩)
    (fun os started H enc _ => crcFits_lifted os started H enc)
#print axioms crcFits_holds
end Go.Proofs.Yteonfodeddaoiaa
