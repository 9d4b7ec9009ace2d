/- PagePuts is proved: any page's block, or the error, is the document's; it is read as it was, and as no other file's or place's; for every input, no conditions. -/
import Derived.Test.YtledmlndlpmgdaaPGet
import Derived.Test.YtledmlndlpmgdaaPRefP
import Derived.Test.YtledmlndlpmgdaaPMany
import Derived.Test.YtledmlndlpmgdaaLaw
import Derived.ProofKit
import Derived.Lib.SmallJoins
namespace Go.Proofs.Ytledmlndlpmgdaa
open Go.RowKit Cr Me Pg

theorem pputs_great (f p o : Int) (A : Option Addr) (n c : Nat) (w : World) (hn : 300 < n) :
    Calls Try.prog 3 #[.int .u32 f, .int .u32 p, .int .u32 o, .slice A n c] w fun e w' => e = .returned (.bool true) ∧ Below w.heap.size w w' := by
  have h1 : decide ((300 : Int) < (n : Int)) = true := by simp; omega
  go_enter Try.func3, Try.ntmps3
  go_wp2_with (go_at_call 6; refine (awake_any _).mono ?_; rintro e w1 ⟨rfl, rfl⟩)
  go_ret
  exact ⟨rfl, Below.refl _ _⟩
theorem pputs_long (f p o : Int) (A : Option Addr) (n c : Nat) (w : World) (hn : 112 < n) (hn3 : n ≤ 300) :
    Calls Try.prog 3 #[.int .u32 f, .int .u32 p, .int .u32 o, .slice A n c] w fun e w' => e = .returned (.bool true) ∧ Below w.heap.size w w' := by
  have h1 : decide ((300 : Int) < (n : Int)) = false := by simp; omega
  have h2 : decide ((112 : Int) < (n : Int)) = true := by simp; omega
  go_enter Try.func3, Try.ntmps3
  go_wp2_with fail
  refine (pput_long f p A n c w hn).mono ?_
  rintro e w1 ⟨rfl, rfl⟩
  go_wp2_with (go_at_call 6; refine (awake_any _).mono ?_; rintro e w1 ⟨rfl, rfl⟩)
  go_ret
  exact ⟨rfl, Below.refl _ _⟩
/-- What is known of each slot where all answers are held against the document's. -/
def ppG (A X Y : Option Addr) (n c cx cy : Nat) (f p o : Reg) (b : List UInt8) (cg ch : Int) (bg bh : Bool) : Gw.Fact := fun t v w =>
  match t with
  | 0 | 67 | 89 => v = .int .u32 (f.toNat : Int)
  | 1 | 68 | 97 => v = .int .u32 (p.toNat : Int)
  | 2 | 88 | 96 => v = .int .u32 (o.toNat : Int)
  | 3 | 69 | 81 => v = .slice A n c
  | 9 | 65 => v = .slice X 128 cx
  | 10 | 62 | 12 | 75 => v = .int .i64 0
  | 11 | 79 => v = .slice Y n cy
  | 66 | 71 => v = strOf (enc f p b)
  | 70 => ∃ Z, (∃ cz, v = .slice Z 128 cz) ∧ Rd w w.heap.size Z (enc f p b)
  | 80 | 82 => v = strOf b
  | 14 | 86 => v = .int .i64 cg
  | 16 | 94 => v = .int .i64 ch
  | 87 | 90 => v = .bool bg
  | 95 | 98 => v = .bool bh
  | 63 | 64 | 72 | 73 | 74 | 76 | 77 | 78 | 83 | 84 | 85 | 91 | 92 | 93 | 99 | 100 | 101 | 102 | 103 | 8 => v = .bool true
  | _ => True
theorem str_eql (l : List UInt8) (W : World) : (binOp .eql 9 (strOf l) (strOf l)).run Try.prog W = .ok (.bool true) W := by
  unfold strOf
  simp [go_sem]
theorem str_eguard (x y : Operand) (l m : List UInt8) (W : World) : (eqGuard .eql 9 x y (strOf l) (strOf m)).run Try.prog W = .ok () W := by
  unfold strOf
  simp [go_sem, eqGuard]
set_option maxRecDepth 100000 in
set_option maxHeartbeats 2000000 in
theorem pputs_law (f p o : Reg) (A : Option Addr) (n c : Nat) (b : List UInt8) (w : World) (hb : b.length = n) (hr : Rd w w.heap.size A b) (hn : n ≤ 112) :
    Calls Try.prog 3 #[.int .u32 (f.toNat : Int), .int .u32 (p.toNat : Int), .int .u32 (o.toNat : Int), .slice A n c] w fun e w' => e = .returned (.bool true) ∧ Below w.heap.size w w' := by
  have h1 : decide ((300 : Int) < (n : Int)) = false := by simp; omega
  have h2 : decide ((112 : Int) < (n : Int)) = false := by simp; omega
  have hbl : b.length ≤ 112 := by omega
  obtain ⟨lg, cg, hg⟩ : ∃ l z, getP (enc f p b) o p = (l, z) := ⟨_, _, rfl⟩
  obtain ⟨lh, ch, hh⟩ : ∃ l z, getP (enc f p b) f o = (l, z) := ⟨_, _, rfl⟩
  have hbg : (cg == 0) = ((o.toNat : Int) == (f.toNat : Int)) := by
    by_cases e : o = f
    · subst e
      rw [getP_enc hbl] at hg
      injection hg with _ hg
      rw [← hg, beq_self_eq_true, beq_self_eq_true]
    · rw [getP_other hbl (fun h => e h.1.symm)] at hg
      injection hg with _ hg
      rw [← hg, eq_comm]
      have : ¬ o.toNat = f.toNat := fun h => e (BitVec.eq_of_toNat_eq h)
      have h2 : ((o.toNat : Int) == (f.toNat : Int)) = false := by rw [beq_eq_false_iff_ne]; omega
      rw [h2]; rfl
  have hbh : (ch == 0) = ((o.toNat : Int) == (p.toNat : Int)) := by
    by_cases e : o = p
    · subst e
      rw [getP_enc hbl] at hh
      injection hh with _ hh
      rw [← hh, beq_self_eq_true, beq_self_eq_true]
    · rw [getP_other hbl (fun h => e h.2.symm)] at hh
      injection hh with _ hh
      rw [← hh, eq_comm]
      have : ¬ o.toNat = p.toNat := fun h => e (BitVec.eq_of_toNat_eq h)
      have h2 : ((o.toNat : Int) == (p.toNat : Int)) = false := by rw [beq_eq_false_iff_ne]; omega
      rw [h2]; rfl
  obtain ⟨bg, hg1⟩ : ∃ bg, (cg == 0) = bg := ⟨_, rfl⟩
  obtain ⟨bh, hh1⟩ : ∃ bh, (ch == 0) = bh := ⟨_, rfl⟩
  rw [hg1] at hbg
  rw [hh1] at hbh
  have HB := Lib.hid hb
  have HR := Lib.hid hr
  have HGG := Lib.hid hg
  have HGH := Lib.hid hh
  have HG1 := Lib.hid hg1
  have HG2 := Lib.hid hbg.symm
  have HH1 := Lib.hid hh1
  have HH2 := Lib.hid hbh.symm
  have HEN := Lib.hid (enc_length (f := f) (p := p) hbl)
  have HGE := Lib.hid (getP_enc (f := f) (p := p) hbl)
  clear hb hr hg hh hg1 hbg hh1 hbh hbl
  go_enter Try.func3, Try.ntmps3
  go_wp2_with fail
  refine (pput_good f p A n c b w HB.out hn HR.out).mono ?_
  intro e w1 h
  obtain ⟨X, n1, cx, rfl, hl1, hc1, ho1, hr1, hb1⟩ := h.open
  have hn1 : n1 = 128 := by rw [← hl1]; exact HEN.out
  subst hn1
  have HX := Lib.hid hr1
  have HB1 := Lib.hid hb1
  clear hl1 ho1 hr1 hb1 h
  go_wp2_with fail
  refine (pget_any f p X 128 cx (enc f p b) w1 HEN.out hc1 HX.out).mono ?_
  rw [HGE.out]
  rintro e w2 ⟨hb2, Y, n2, cy, rfl, hl2, -, hr2, -⟩
  have hn2 : n2 = n := by rw [← hl2]; exact HB.out
  subst hn2
  have HB2 := Lib.hid (HB1.out.trans (hb2.mono HB1.out.size))
  have HX2 := Lib.hid ((HX.out.below hb2).more hb2.size)
  have HY := Lib.hid hr2
  clear hl2 hr2 hb2
  go_wp2_with fail
  refine (pget_any o p X 128 cx (enc f p b) w2 HEN.out hc1 HX2.out).mono ?_
  rw [HGG.out]
  rintro e w3 ⟨hb3, Xg, ng, xg, rfl, -, -, -, -⟩
  have HB3 := Lib.hid (HB2.out.trans (hb3.mono HB2.out.size))
  have HX3 := Lib.hid ((HX2.out.below hb3).more hb3.size)
  have HY3 := Lib.hid ((HY.out.below hb3).more hb3.size)
  clear hb3 HX2 HY HX
  go_wp2_with fail
  refine (pget_any f o X 128 cx (enc f p b) w3 HEN.out hc1 HX3.out).mono ?_
  rw [HGH.out]
  rintro e w4 ⟨hb4, Xh, nh, xh, rfl, -, -, -, -⟩
  have HB4 := Lib.hid (HB3.out.trans (hb4.mono HB3.out.size))
  have HX4 := Lib.hid ((HX3.out.below hb4).more hb4.size)
  have HY4 := Lib.hid ((HY3.out.below hb4).more hb4.size)
  have HR4 := Lib.hid ((HR.out.below HB4.out).more HB4.out.size)
  clear hb4 HX3 HY3
  go_wp2_with fail
  refine Gw.wp_region_grow (ppG A X Y n2 c cx cy f p o b cg ch bg bh) [62, 63, 64, 65, 66, 67, 68, 69, 70, 71, 72, 73, 74, 75, 76, 77, 78, 79, 80, 81, 82, 83, 84, 85, 86, 87, 88, 89, 90, 91, 92, 93, 94, 95, 96, 97, 98, 99, 100, 101, 102, 103, 8] [([10], none), ([62], none), ([63], none), ([9, 64], some (64, true)), ([65, 64], some (64, true)), ([0, 64], some (64, true)), ([1, 64], some (64, true)), ([3, 64], some (64, true)), ([67, 68, 69, 64], some (64, true)), ([70, 64], some (64, true)), ([66, 71, 64], some (64, true)), ([64, 72], none), ([73], none), ([12, 74], some (74, true)), ([75, 74], some (74, true)), ([74, 76], none), ([77], none), ([11, 78], some (78, true)), ([79, 78], some (78, true)), ([3, 78], some (78, true)), ([81, 78], some (78, true)), ([80, 82, 78], some (78, true)), ([78, 83], none), ([84], none), ([14, 85], some (85, true)), ([86, 85], some (85, true)), ([2, 85], some (85, true)), ([0, 85], some (85, true)), ([88, 89, 85], some (85, true)), ([87, 90, 85], some (85, true)), ([85, 91], none), ([92], none), ([16, 93], some (93, true)), ([94, 93], some (93, true)), ([2, 93], some (93, true)), ([1, 93], some (93, true)), ([96, 97, 93], some (93, true)), ([95, 98, 93], some (93, true)), ([93, 99], none), ([100], none), ([101], some (101, true)), ([101, 102], none), ([103], none)] 104 (by kernel_rfl) (by kernel_rfl) rfl ?h0 ?hreq ?hend
  case h0 =>
    intro t W hnd _
    unfold ppG
    split <;> first | rfl | trivial | exact absurd (by simp) hnd
  case hreq =>
    refine ⟨?_, ?_, ?_, ?_, ?_, ?_, ?_, ?_, ?_, ?_, ?_, ?_, ?_, ?_, ?_, ?_, ?_, ?_, ?_, ?_, ?_, ?_, ?_, ?_, ?_, ?_, ?_, ?_, ?_, ?_, ?_, ?_, ?_, ?_, ?_, ?_, ?_, ?_, ?_, ?_, ?_, ?_, ?_, trivial⟩
    all_goals
      intro ac W hg hk
      have k1 : (convert 23 9 (.slice X 128 cx)).run Try.prog W = .ok (strOf (enc f p b)) W := str_any X 128 cx _ W _ HEN.out (HX4.out.below hg)
      have k2 : (convert 23 9 (.slice Y n2 cy)).run Try.prog W = .ok (strOf b) W := str_any Y n2 cy b W _ HB.out (HY4.out.below hg)
      have k3 : (convert 23 9 (.slice A n2 c)).run Try.prog W = .ok (strOf b) W := str_any A n2 c b W _ HB.out (HR4.out.below hg)
      have g1 := HG1.out
      have g2 := HG2.out
      have g3 := HH1.out
      have g4 := HH2.out
      simp only [Gw.Knows, ppG] at hk
      try (simp [go_sem, Gw.OpReq, Gw.Ok, Gw.Post, Gw.Holds, ppG, Gw.Grows.refl, hk, k1, k2, k3, g1, g2, g3, g4, str_eql, str_eguard]; done)
    · simp [go_sem, Gw.OpReq, Gw.Ok, Gw.Post, Gw.Holds, ppG, Gw.Grows.refl, hk]
      refine (ref_pput_any f p A n2 c b W HB.out hn ((HR4.out.below hg).more (Below.size hg))).mono ?_
      intro e w5 h5
      obtain ⟨Z, n5, cz, rfl, hl5, -, -, hr5, hb5⟩ := h5.open
      have hn5 : n5 = 128 := by rw [← hl5]; exact HEN.out
      subst hn5
      exact ⟨_, rfl, hb5, fun W2 hW2 => ⟨Z, ⟨cz, rfl⟩, (hr5.below hW2).more (Below.size hW2)⟩⟩
    · obtain ⟨⟨Z, ⟨cz, he⟩, hr5⟩, h64, -⟩ := hk
      have k5 : (convert 23 9 (.slice Z 128 cz)).run Try.prog W = .ok (strOf (enc f p b)) W := str_any Z 128 cz _ W _ HEN.out hr5
      simp [go_sem, Gw.OpReq, Gw.Ok, Gw.Post, Gw.Holds, ppG, Gw.Grows.refl, he, h64, k5]
    · simp [go_sem, Gw.OpReq, Gw.Ok, Gw.Post, Gw.Holds, ppG, Gw.Grows.refl, hk]
      refine (awake_any W).mono ?_
      rintro e w5 ⟨rfl, rfl⟩
      exact ⟨_, rfl, Gw.Grows.refl _, fun _ _ => rfl⟩
  case hend =>
    intro x w' hg hx
    have h8 : x 8 = .bool true := (hx 8 (by simp)).now
    simp only [Gw.putAll, Act.put, List.setIfInBounds_toArray, List.set_cons_zero, List.set_cons_succ]
    rw [h8]
    go_wp2
    go_ret
    exact ⟨rfl, HB4.out.trans (Below.mono hg HB4.out.size)⟩
open Go.ChangeShapes Go.WideShapes Go.ChangeAt Go.Joins
set_option maxRecDepth 100000 in
theorem pagePuts_lifted (os : Os) (started : os.Started) (H : Type) (enc : TypeId × Value → H) :
    ReturnsInHanded {} Try.checked os 3 .any (Rows.pagePutsSpec.pre6 enc Try.prog Try.f3 Rows.pagePutsRow.domain false) (Rows.pagePutsSpec.post enc Try.prog Try.f3 false true false false) := by
  refine returnsInHanded_of_change (C := Try.checked) own started (by kernel_rfl) Try.func3
    (ChangeSpec.witness6 (enc := enc) (C := Try.checked) false ⟨#[], #[.int .u32 0, .int .u32 0, .int .u32 0, .slice none 0 0], []⟩ 8 (by kernel_rfl) (by kernel_rfl) (by kernel_rfl) (by kernel_rfl)) ?_
  intro W base args ds gs before hval0 hW hcnd _
  have hval : ∀ (j : Nat) t v, Try.f3.params[j]? = some t → args[j]? = some v → Value.okWide Try.prog W .any base t v := hval0
  have hW' := hW
  obtain ⟨p, q, hA0, hV, rfl, hfz, hnd⟩ := hW
  have hA : DataW.TrodAll enc Try.prog W 0 (fun _ => true) true Try.f3.params.toList args.toList ds p := hA0
  rw [Try.params3] at hA hval
  obtain ⟨v0, v1, v2, v3, d0, d1, d2, d3, p0, p1, p2, p3, rfl, rfl, rfl, h0, h1, h2, h3⟩ := trodAll_four hA
  obtain ⟨f_, rfl, -, -, wf⟩ := open_int Try.underlying22 (hval 0 22 v0 rfl rfl) h0
  obtain ⟨p_, rfl, -, -, wp⟩ := open_int Try.underlying22 (hval 1 22 v1 rfl rfl) h1
  obtain ⟨o_, rfl, -, -, wo⟩ := open_int Try.underlying22 (hval 2 22 v2 rfl rfl) h2
  obtain ⟨A, n, c, b, rfl, hk, hc, hc63, hr⟩ := open_bytes Try.underlying23 Try.underlying5 cells_u8 (hval 3 23 v3 rfl rfl) h3
  obtain ⟨f, rfl⟩ := reg_of (z := f_) (by simp [Lit.wf, IntKind.min, IntKind.max, IntKind.bits, IntKind.signed] at wf; omega)
  obtain ⟨r, rfl⟩ := reg_of (z := p_) (by simp [Lit.wf, IntKind.min, IntKind.max, IntKind.bits, IntKind.signed] at wp; omega)
  obtain ⟨o, rfl⟩ := reg_of (z := o_) (by simp [Lit.wf, IntKind.min, IntKind.max, IntKind.bits, IntKind.signed] at wo; omega)
  have hwalk : Calls Try.prog 3 #[.int .u32 (f.toNat : Int), .int .u32 (r.toNat : Int), .int .u32 (o.toNat : Int), .slice A n c] W fun e w' => e = .returned (.bool true) ∧ Below W.heap.size W w' := by
    by_cases hn : 300 < n
    · exact pputs_great _ _ _ A n c W hn
    · by_cases hn2 : 112 < n
      · exact pputs_long _ _ _ A n c W hn2 (by omega)
      · exact pputs_law f r o A n c b W hk hr (by omega)
  refine hwalk.mono fun e W' ⟨he, hb⟩ => ?_
  subst he
  exact ⟨_, rfl, Lw.post_true laidOut (by kernel_rfl) rfl rfl rfl rfl (by kernel_rfl) Try.underlying4 hW' hb⟩

/-- PagePuts: any page's block, or the error, is the document's; it is read as it was, and as no other file's or place's. -/
theorem pagePuts_holds : Rows.PagePutsSaid :=
  OpenClaim.holds_of_wide 3 Try.f3 rfl rfl rfl rfl rfl rfl rfl ⟨rfl, rfl, rfl, rfl, rfl⟩ rfl rfl rfl rfl rfl (by kernel_rfl) Try.func3 (by kernel_rfl)
    (of_decide_eq_true (by kernel_rfl)) (by unfold Func.isWrapper; rw [if_neg (of_decide_eq_false (by kernel_rfl))]; exact ⟨rfl, rfl⟩)
    (fun os started H enc _ => pagePuts_lifted os started H enc)
#print axioms pagePuts_holds
end Go.Proofs.Ytledmlndlpmgdaa
