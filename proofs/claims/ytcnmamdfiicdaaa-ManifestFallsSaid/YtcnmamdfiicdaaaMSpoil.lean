/- ManifestSpoilt: a manifest that was written is read with one byte of a slot spoilt. -/
import Derived.Test.YtcnmamdfiicdaaaSpoM
import Derived.Test.YtcnmamdfiicdaaaMRaw
namespace Go.Proofs.Ytcnmamdfiicdaaa
open Go.RowKit Me Mf Rw Ds

theorem fit_small {m : ManD} (h : Fit m) : Small m := small_of_body (by have := h.2; omega)
set_option maxRecDepth 100000 in
set_option maxHeartbeats 4000000 in
theorem mspoil_law (A : Option Addr) (n c : Nat) (m : ManD) (i a : Int) (y : UInt8) (w : World) (h : ManAt w w.heap.size A n c m) :
    Calls Try.prog 6 #[mval m.version m.next A n c, .int .i64 i, .int .i64 a, .int .u8 (y.toNat : Int)] w fun e w' => e = .returned (.bool true) ∧ Below w.heap.size w w' := by
  have HM := Lib.hid h
  have hn := h.len
  have HL := Lib.hid hn
  obtain ⟨H, hH⟩ : ∃ H, H = w.heap.size := ⟨_, rfl⟩
  obtain ⟨w0, hw0⟩ : ∃ w0, w0 = w.alloc (.cells #[.int .u64 (m.version : Int), .int .u32 (m.next : Int), .slice A n c] 28) := ⟨_, rfl⟩
  have HW0 := Lib.hid hw0
  have HB0 := Lib.hid (show Below w.heap.size w w0 by rw [hw0]; exact (Below.refl _ _).alloc (Nat.le_refl _) _)
  have K0 := Lib.hid (show Blk w0 H [.int .u64 (m.version : Int), .int .u32 (m.next : Int), .slice A n c] by rw [hw0, hH]; exact Blk.new w [.int .u64 (m.version : Int), .int .u32 (m.next : Int), .slice A n c] _)
  have HH := Lib.hid hH
  have q0 := K0.out.cell (i := 0) rfl
  have q1 := K0.out.cell (i := 1) rfl
  have q2 := K0.out.cell (i := 2) rfl
  rw [hw0] at q0 q1 q2
  rw [hH] at q0 q1 q2
  clear hw0 h hn hH
  go_enter Try.func6, Try.ntmps6
  go_wp2_with fail
  rw [← HW0.out, ← HH.out]
  clear HW0 q0 q1 q2
  refine (great_any m.version m.next A n c m w0 ((HM.out.below HB0.out).more HB0.out.size)).mono ?_
  rintro e w1 ⟨b1, rfl, hb1, hB1⟩
  have HB1 := Lib.hid (HB0.out.trans (hB1.mono HB0.out.size))
  have K1 := Lib.hid (K0.out.past hB1)
  have HT := Lib.hid hb1
  clear hb1 hB1
  cases b1 with
  | true =>
    go_wp2_with fail
    refine (awake_any w1).mono ?_
    rintro e w2 ⟨rfl, hb2⟩
    have HB2 := Lib.hid (HB1.out.trans (hb2.mono HB1.out.size))
    clear hb2
    go_wp2
    go_ret
    exact ⟨rfl, HB2.out⟩
  | false =>
  have HTY := Lib.hid (show Tiny m from Classical.byContradiction fun hc => by have := HT.out.2 hc; cases this)
  have hn60 : n ≤ 60 := by rw [← HL.out]; exact HTY.out.1
  have q0 := K1.out.cell (i := 0) rfl
  have q1 := K1.out.cell (i := 1) rfl
  have q2 := K1.out.cell (i := 2) rfl
  go_wp2_with fail
  refine (rmay_any A n c m w1 (by omega) (fun hg => by have := tiny_body HTY.out HM.out.wf hg; omega) ((HM.out.below HB1.out).more HB1.out.size)).mono ?_
  rintro e w2 ⟨b2, rfl, hb2, hB2⟩
  have HB2 := Lib.hid (HB1.out.trans (hB2.mono HB1.out.size))
  have K2 := Lib.hid (K1.out.past hB2)
  have HFT := Lib.hid hb2
  clear hb2 hB2 q0 q1 q2
  cases b2 with
  | false =>
    go_wp2_with fail
    refine (awake_any w2).mono ?_
    rintro e w3 ⟨rfl, hb2⟩
    have HB3 := Lib.hid (HB2.out.trans (hb2.mono HB2.out.size))
    clear hb2
    go_wp2
    go_ret
    exact ⟨rfl, HB3.out⟩
  | true =>
  have HFIT := Lib.hid (show Fit m from HFT.out.1 (by trivial))
  clear HFT HT
  have hway : i < 0 ∨ (¬ i < 0 ∧ 32 ≤ i) ∨ (¬ i < 0 ∧ ¬ 32 ≤ i) := by omega
  rcases hway with h1 | ⟨h1, h2⟩ | ⟨h1, h2⟩
  · go_wp2_with fail
    refine (awake_any w2).mono ?_
    rintro e w3 ⟨rfl, hb2⟩
    have HB3 := Lib.hid (HB2.out.trans (hb2.mono HB2.out.size))
    clear hb2
    go_wp2
    go_ret
    exact ⟨rfl, HB3.out⟩
  · go_wp2_with fail
    refine (awake_any w2).mono ?_
    rintro e w3 ⟨rfl, hb2⟩
    have HB3 := Lib.hid (HB2.out.trans (hb2.mono HB2.out.size))
    clear hb2
    go_wp2
    go_ret
    exact ⟨rfl, HB3.out⟩
  obtain ⟨k, hk⟩ : ∃ k : Nat, i = (k : Int) := ⟨i.toNat, by omega⟩
  have hk32 : k < 32 := by omega
  have HI := Lib.hid hk
  clear hk
  go_wp2_with fail
  refine (dnew_any 40 (by omega) (by omega) w2).mono ?_
  rintro e w3 ⟨D, own, rfl, hd, hb3⟩
  have HB3 := Lib.hid (HB2.out.trans (hb3.mono HB2.out.size))
  have K3 := Lib.hid (K2.out.past hb3)
  have HD3 := Lib.hid hd
  have hs2 : H < w2.heap.size := K2.out.lt
  have hs3 := hb3.size
  have q0 := K3.out.cell (i := 0) rfl
  have q1 := K3.out.cell (i := 1) rfl
  have q2 := K3.out.cell (i := 2) rfl
  have HMW := Lib.hid (mwrite_any hd A n c m ((HM.out.below HB3.out).more HB3.out.size) (fit_small HFIT.out) HFIT.out (by simp [newD]))
  clear hd hb3
  obtain ⟨S, hS⟩ : ∃ S, S = (wmD (newD 40) m 2).1 := ⟨_, rfl⟩
  have hdone := wmD_done (new_calm (n := 40) (by omega)) HFIT.out rfl (by simp [newD])
  have hcalm : (∀ k, k < 2 → slotS S.stored k 16 = slotOf m) ∧ Calm S ∧ S.on = true ∧ S.stored.length = 40 := by
    rw [hS]
    rcases wmD_cases (new_calm (n := 40) (by omega)) HFIT.out with ⟨q, -⟩ | ⟨q, -⟩ | ⟨-, r1, r2, r3, r4⟩
    · exact absurd hdone.1 q
    · exact absurd hdone.1 q
    · exact ⟨r1, r2, r3, by rw [r4]; simp [newD]⟩
  rw [hdone.1, ← hS] at HMW
  have HC := Lib.hid hcalm
  clear hdone hS hcalm
  go_wp2_with fail
  refine HMW.out.mono ?_
  rintro e w4 ⟨rfl, own2, hd2, ho2, hn2⟩
  have hnH : ∀ j, own2 j → w2.heap.size ≤ j := fun j hj => by
    rcases hn2 j hj with h | h
    · exact (HD3.out.lt h).1
    · omega
  have HNH := Lib.hid hnH
  have HD4 := Lib.hid hd2
  have K4 := Lib.hid (K3.out.out ho2 fun h => by have := (HD3.out.lt h).1; omega)
  have hs4 := ho2.size
  have HB4 := Lib.hid (HB3.out.trans (ho2.below (B := w.heap.size) (fun j _ hj => by have := (HD3.out.lt hj).1; have := HB2.out.size; omega) HB3.out.size))
  clear hd2 ho2 hn2 q0 q1 q2 hnH HMW
  obtain ⟨T, Z, hT, hZ⟩ := slots_say (spoilD S i a y).1
  have HT := Lib.hid hT
  have HZ := Lib.hid hZ
  have HA := Lib.hid (show ansD (spoilD S i a y).1 T Z = (m, 0) by
    rw [HI.out] at hT ⊢
    exact spoil_slots HC.out.2.1 HC.out.2.2.1 HM.out.wf HFIT.out HC.out.1 (by rw [HC.out.2.2.2]; omega) k hk32 a y hT)
  have HP := Lib.hid (show (spoilD S i a y).1.pend = [] by rw [spoilD_keeps]; exact HC.out.2.1.pend)
  have HSP := Lib.hid (spoil_any HD4.out i a y)
  obtain ⟨S2, hS2⟩ : ∃ S2, S2 = (spoilD S i a y).1 := ⟨_, rfl⟩
  obtain ⟨x2, hx2⟩ : ∃ x2, x2 = (spoilD S i a y).2 := ⟨_, rfl⟩
  rw [← hS2, ← hx2] at HSP
  rw [← hS2] at HT HZ HA HP
  clear hT hZ hS2 hx2
  go_wp2_with fail
  refine HSP.out.mono ?_
  rintro e w5 ⟨rfl, own3, hd3, ho3, hn3⟩
  have HD5 := Lib.hid hd3
  have K5 := Lib.hid (K4.out.out ho3 fun h => by have := HNH.out _ h; omega)
  have HB5 := Lib.hid (HB4.out.trans (ho3.below (B := w.heap.size) (fun j _ hj => by have := HNH.out _ hj; have := HB2.out.size; omega) HB4.out.size))
  clear hd3 ho3 hn3 HSP
  go_wp2_with fail
  have HRD := mread_any HD5.out (by rw [HP.out]; simp) HT.out HZ.out
  rw [HA.out] at HRD
  refine HRD.mono ?_
  rintro e w6 ⟨hb6, A3, n3, c3, he, hm3⟩
  replace he : e = .returned (.tuple #[mval m.version m.next A3 n3 c3, .int .i64 0]) := he
  subst he
  obtain ⟨w7, hw7⟩ : ∃ w7, w7 = w6.alloc (.cells #[.int .u64 (m.version : Int), .int .u32 (m.next : Int), .slice A3 n3 c3] 28) := ⟨_, rfl⟩
  have HW7 := Lib.hid hw7
  have hb7 : Below w6.heap.size w6 w7 := by rw [hw7]; exact (Below.refl _ _).alloc (Nat.le_refl _) _
  have X7 := (show Blk w7 w6.heap.size [.int .u64 (m.version : Int), .int .u32 (m.next : Int), .slice A3 n3 c3] by rw [hw7]; exact Blk.new w6 [.int .u64 (m.version : Int), .int .u32 (m.next : Int), .slice A3 n3 c3] _)
  have hb57 : Below w5.heap.size w5 w7 := hb6.trans (hb7.mono hb6.size)
  have HB7 := Lib.hid (HB5.out.trans (hb57.mono HB5.out.size))
  have K7 := K5.out.past hb57
  have HM7 := Lib.hid (show ManAt w7 w7.heap.size A3 n3 c3 m from (hm3.past hb7))
  have HD7 := Lib.hid (HD5.out.past hb57)
  have hlt6 := X7.lt
  have q0 := K7.cell (i := 0) rfl
  have q1 := K7.cell (i := 1) rfl
  have q2 := K7.cell (i := 2) rfl
  have x0 := X7.cell (i := 0) rfl
  have x1 := X7.cell (i := 1) rfl
  have x3 := X7.cell (i := 2) rfl
  rw [hw7] at q0 q1 q2 x0 x1 x3
  clear hb6 hm3 hb7 hb57 hw7 X7 K7 HRD
  go_wp2_with fail
  rw [← HW7.out]
  refine (same_self A3 A n3 n c3 c m w7 HM7.out ((HM.out.below HB7.out).more HB7.out.size)).mono ?_
  rintro e w8 ⟨rfl, hb8⟩
  have HB8 := Lib.hid (HB7.out.trans (hb8.mono HB7.out.size))
  have HWT := Lib.hid (waiting_any (HD7.out.past hb8))
  rw [HP.out] at HWT
  clear hb8 q0 q1 q2 x0 x1 x3 HW7
  go_wp2_with fail
  refine HWT.out.mono ?_
  rintro e w9 ⟨rfl, rfl⟩
  go_wp2_with fail
  refine (awake_any _).mono ?_
  rintro e w9 ⟨rfl, hb9⟩
  have HB9 := Lib.hid (HB8.out.trans (hb9.mono HB8.out.size))
  go_wp2
  go_ret
  exact ⟨rfl, HB9.out⟩
open Go.ChangeShapes Go.WideShapes Go.ChangeAt Go.Joins
set_option maxRecDepth 100000 in
theorem manifestSpoilt_lifted (os : Os) (started : os.Started) (H : Type) (enc : TypeId × Value → H) :
    ReturnsInHanded {} Try.checked os 6 .any (Rows.manifestSpoiltSpec.pre6 enc Try.prog Try.f6 Rows.manifestSpoiltRow.domain false) (Rows.manifestSpoiltSpec.post enc Try.prog Try.f6 false true false false) := by
  refine returnsInHanded_of_change (C := Try.checked) own started (by kernel_rfl) Try.func6
    (ChangeSpec.witness6 (enc := enc) (C := Try.checked) false ⟨#[], #[.agg #[.int .u64 0, .int .u32 0, .slice none 0 0], .int .i64 0, .int .i64 0, .int .u8 0], []⟩ 8 (by kernel_rfl) (by kernel_rfl) (by kernel_rfl) (by kernel_rfl)) ?_
  intro W base args ds gs before hval0 hW hcnd _
  have hval : ∀ (j : Nat) t v, Try.f6.params[j]? = some t → args[j]? = some v → Value.okWide Try.prog W .any base t v := hval0
  have hW' := hW
  obtain ⟨p, q, hA0, hV, rfl, hfz, hnd⟩ := hW
  have hA : DataW.TrodAll enc Try.prog W 0 (fun _ => true) true Try.f6.params.toList args.toList ds p := hA0
  rw [Try.params6] at hA hval
  obtain ⟨v0, v1, v2, v3, d0, d1, d2, d3, p0, p1, p2, p3, rfl, rfl, rfl, h0, h1, h2, h3⟩ := trodAll_four hA
  obtain ⟨A, n, c, m, rfl, hm⟩ := open_man (hval 0 28 v0 rfl rfl) h0
  obtain ⟨i, rfl, -, -, -⟩ := open_int Try.underlying3 (hval 1 3 v1 rfl rfl) h1
  obtain ⟨a, rfl, -, -, -⟩ := open_int Try.underlying3 (hval 2 3 v2 rfl rfl) h2
  obtain ⟨y, rfl, -, -, wy⟩ := open_int Try.underlying5 (hval 3 5 v3 rfl rfl) h3
  have hy : 0 ≤ y ∧ y < 256 := by simp [Lit.wf, IntKind.min, IntKind.max, IntKind.bits, IntKind.signed] at wy; omega
  have hy8 : y = ((UInt8.ofNat y.toNat).toNat : Int) := by rw [UInt8.toNat_ofNat']; omega
  have hwalk : Calls Try.prog 6 #[mval m.version m.next A n c, .int .i64 i, .int .i64 a, .int .u8 y] W fun e w' => e = .returned (.bool true) ∧ Below W.heap.size W w' := by
    rw [hy8]; exact mspoil_law A n c m i a (UInt8.ofNat y.toNat) W hm
  refine hwalk.mono fun e W' ⟨he, hb⟩ => ?_
  subst he
  exact ⟨_, rfl, Lw.post_true laidOut (by kernel_rfl) rfl rfl rfl rfl (by kernel_rfl) Try.underlying4 hW' hb⟩

/-- ManifestSpoilt: a manifest that was written is read with one byte of a slot spoilt. -/
theorem manifestSpoilt_holds : Rows.ManifestSpoiltSaid :=
  OpenClaim.holds_of_wide 6 Try.f6 rfl rfl rfl rfl rfl rfl rfl ⟨rfl, rfl, rfl, rfl, rfl⟩ rfl rfl rfl rfl rfl (by kernel_rfl) Try.func6 (by kernel_rfl)
    (of_decide_eq_true (by kernel_rfl)) (by unfold Func.isWrapper; rw [if_neg (of_decide_eq_false (by kernel_rfl))]; exact ⟨rfl, rfl⟩)
    (fun os started H enc _ => manifestSpoilt_lifted os started H enc)
#print axioms manifestSpoilt_holds
end Go.Proofs.Ytcnmamdfiicdaaa

