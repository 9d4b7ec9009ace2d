/- A byte of the document's disk is spoilt. -/
import Derived.Test.YtpdhnkmihlgdjaaDRefB
namespace Go.Proofs.Ytpdhnkmihlgdjaa
open Go.RowKit Me Rw Ds

/-- The document's disk with a byte spoilt, the error. -/
def spoilR (m : RefM) (i at_ : Int) (y : UInt8) : RefM × Int :=
  if hasB m.count i && hasB 128 at_ then ({ m with made := put m.made ⟨i.toNat, turnB (lastW m.made i.toNat zero128) at_.toNat y⟩ }, 0) else (m, 9)
set_option maxRecDepth 100000 in
set_option maxHeartbeats 2000000 in
theorem rspoil_any {own : Nat → Prop} {w : World} {m : RefM} {Am Aw : Option Addr} {nm cm nw cw : Nat} (h : RefAt w own m Am cm Aw cw) (hm : m.made.length = nm) (hw : m.wait.length = nw) (hnm : nm ≤ 536870912) (hown : ∀ k, own k → k < w.heap.size) (hm8 : ∀ x ∈ m.made, x.b.length = 128) (i at_ : Int) (y : UInt8) :
    Calls Try.prog 26 #[.agg #[.int .i64 (m.count : Int), .bool m.off, .int .i64 m.fuse, .slice Am nm cm, .slice Aw nw cw], .int .i64 i, .int .i64 at_, .int .u8 (y.toNat : Int)] w fun e w' =>
      ∃ v, e = .returned (.tuple #[v, .int .i64 (spoilR m i at_ y).2]) ∧ RVal w' own (spoilR m i at_ y).1 v ∧ Below w.heap.size w w' := by
  obtain ⟨H, hH⟩ : ∃ H, w.heap.size = H := ⟨_, rfl⟩
  obtain ⟨mc, hmc⟩ : ∃ mc, mc = m.count := ⟨_, rfl⟩
  obtain ⟨mo, hmo⟩ : ∃ mo, mo = m.off := ⟨_, rfl⟩
  obtain ⟨mf, hmf⟩ : ∃ mf, mf = m.fuse := ⟨_, rfl⟩
  obtain ⟨W2, hW2⟩ : ∃ W2, (w.alloc (.cells #[.int .i64 (mc : Int), .bool mo, .int .i64 mf, .slice Am nm cm, .slice Aw nw cw] 30)).alloc (.cells #[.int .i64 0, .bool false, .int .i64 0, .slice none 0 0, .slice none 0 0] 30) = W2 := ⟨_, rfl⟩
  have hsz : W2.heap.size = H + 2 := by rw [← hW2, ← hH]; simp
  have hB0 : Blk W2 H [.int .i64 (mc : Int), .bool mo, .int .i64 mf, .slice Am nm cm, .slice Aw nw cw] := by
    rw [← hW2, ← hH]; exact (Blk.new w _ _).alloc _
  have hB1 : Blk W2 (H + 1) [.int .i64 0, .bool false, .int .i64 0, .slice none 0 0, .slice none 0 0] := by
    rw [← hW2, ← hH]; exact Blk.new' _ [.int .i64 0, .bool false, .int .i64 0, .slice none 0 0, .slice none 0 0] 30 (H := w.heap.size + 1) (by simp)
  have hb2 : Below w.heap.size w W2 := by
    rw [← hW2]; exact ((Below.refl _ w).alloc (Nat.le_refl _) _).alloc (by simp) _
  have HH := Lib.hid h
  rw [hH] at hb2 hown
  rw [← hmc, ← hmo, ← hmf]
  have HM := Lib.hid (And.intro hm hw)
  have HOwn := Lib.hid hown
  have HF := Lib.hid (And.intro hB0 (And.intro hB1 hb2))
  obtain ⟨k0, k1, k2, k3, k4⟩ := hB0.five
  have HMM := Lib.hid (And.intro hmc (And.intro hmo hmf))
  have HM8 := Lib.hid hm8
  clear hm8
  clear h hm hw hB0 hB1 hb2 hown hmc hmo hmf
  obtain ⟨R, hR⟩ : ∃ R, R = spoilR m i at_ y := ⟨_, rfl⟩
  rw [← hR]
  unfold spoilR at hR
  rw [← HMM.out.1] at hR
  have hy8 := y.toNat_lt
  have hd0 := d_one (mc : Int) mo mf Am nm cm Aw nw cw
  by_cases hb : (hasB mc i && hasB 128 at_) = true
  · have hb' := hb
    rw [Bool.and_eq_true] at hb'
    obtain ⟨k, rfl, hk⟩ := hasB_true hb'.1
    obtain ⟨j, rfl, hj⟩ := hasB_true hb'.2
    have HR := Lib.hid (hR.trans (by rw [if_pos hb, Int.toNat_natCast, Int.toNat_natCast]))
    have d1 : decide ((k : Int) < 0) = false := by simp
    have d2 : decide ((mc : Int) ≤ (k : Int)) = false := by simp; omega
    have d3 : decide ((j : Int) < 0) = false := by simp
    have d4 : decide (128 ≤ (j : Int)) = false := by simp; omega
    clear hR hb hb'
    go_enter Try.func26, Try.ntmps26
    go_wp2_with fail
    obtain ⟨b, hbe⟩ : ∃ b, b = lastW m.made k zero128 := ⟨_, rfl⟩
    have hb8 : b.length = 128 := by rw [hbe]; exact lastW_len HM8.out zero128_length
    refine (good_any (mc : Int) mo mf Am nm cm Aw nw cw m.made k own W2 HM.out.1 (by omega) (HH.out.past (show Below w.heap.size w W2 by rw [hH]; exact HF.out.2.2)).made).mono ?_
    rw [← hbe]
    rw [← hbe] at HR
    rintro e w4 ⟨rfl, hb4⟩
    obtain ⟨w5, c5, hr5, hb5, hs5, hc5, hf5⟩ := run_conv (P := Try.prog) 9 38 5 Try.underlying9 Try.underlying38 Try.underlying5 w4 b
    have hbj : b[j]? = some (b.getD j 0) := by rw [List.getD_eq_getElem?_getD, List.getElem?_eq_getElem (by omega)]; rfl
    obtain ⟨u, hu⟩ : ∃ u, u = b.getD j 0 := ⟨_, rfl⟩
    rw [← hu] at hbj
    obtain ⟨Hb, hHb⟩ : ∃ Hb, w4.heap.size = Hb := ⟨_, rfl⟩
    rw [hHb] at hr5 hb5 hs5 hc5 hf5
    rw [hb8] at hr5
    have z0 := hc5 j u hbj
    have f0 := hf5 j (by omega)
    obtain ⟨v8, hv8⟩ : ∃ v8 : UInt8, v8 = u ^^^ y := ⟨_, rfl⟩
    have hx8 := v8.toNat_lt
    have hu8 := u.toNat_lt
    have ex : bits .xor .u8 (u.toNat : Int) (y.toNat : Int) = (v8.toNat : Int) := by rw [hv8]; exact xor_u8 u y
    have hj' : (j : Int) < 128 := by omega
    have hcc : (128 : Int) ≤ (c5 : Int) → True := fun _ => trivial
    have hs4 : H + 2 ≤ Hb := by have := hb4.size; omega
    have HRd6 := Lib.hid (show Rd (w5.setCell ⟨Hb, j, none⟩ (.int .u8 (v8.toNat : Int))) (Hb + 1) (some ⟨Hb, 0, none⟩) (turnB b j y) from fun _ => ⟨_, rfl, Nat.lt_succ_self _, fun q v hv => by
      rw [Addr.add_mid, Nat.zero_add]
      unfold turnB at hv
      rw [← hu, ← hv8, List.getElem?_set] at hv
      by_cases hq : j = q
      · subst hq
        rw [if_pos rfl, if_pos (by omega)] at hv
        injection hv with hv
        rw [World.cell?_setCell_same _ _ _ z0, hv]
      · rw [if_neg hq] at hv
        rw [World.cell?_setCell_other _ _ _ _ (by simp)]
        exact hc5 q v hv⟩)
    have ht8 : (turnB b j y).length = 128 := by simp [turnB, hb8]
    have e1 := str_any (some ⟨Hb, 0, none⟩) 128 c5 (turnB b j y) (w5.setCell ⟨Hb, j, none⟩ (.int .u8 (v8.toNat : Int))) _ ht8 HRd6.out
    have hB6 : Below H w (w5.setCell ⟨Hb, j, none⟩ (.int .u8 (v8.toNat : Int))) := (HF.out.2.2.trans ((hb4.mono (by omega)).trans (hb5.mono (by omega)))).setCell (p := ⟨Hb, j, none⟩) (by show H ≤ Hb; omega) _
    have hK0 := ((HF.out.1.past hb4).keep (hb5.block H (by omega))).other (p := ⟨Hb, j, none⟩) (by show Hb ≠ H; omega) (.int .u8 (v8.toNat : Int))
    have hK1 := ((HF.out.2.1.past hb4).keep (hb5.block (H + 1) (by omega))).other (p := ⟨Hb, j, none⟩) (by show Hb ≠ H + 1; omega) (.int .u8 (v8.toNat : Int))
    clear k0 k1 k2 k3 k4 hW2
    obtain ⟨k0, k1, k2, k3, k4⟩ := hK0.five
    have hsz6 : (w5.setCell ⟨Hb, j, none⟩ (.int .u8 (v8.toNat : Int))).heap.size ≥ H + 2 := by have := hK1.lt; omega
    have HB6 := Lib.hid hB6
    have HK1 := Lib.hid hK1
    have HS6 := Lib.hid hsz6
    have HR5 := Lib.hid hr5
    have HUB := Lib.hid (And.intro hbe ht8)
    clear hb4 hb5 hs5 hc5 hf5 hr5 hbj hu hv8 hbe hB6 hK0 hK1 hsz6 ht8 hcc
    go_wp2_with (first
      | (refine wpList_convert_run rfl 9 38 _ rfl _ _ rfl HR5.out ?_)
      | fail)
    obtain ⟨own', HO'⟩ : ∃ own' : Nat → Prop, Hid (∀ j, own' j ↔ own j ∨ j = H + 1) := ⟨fun j => own j ∨ j = H + 1, Lib.hid fun _ => Iff.rfl⟩
    have hlt' : ∀ j, j < w.heap.size → own' j → own j := fun j hj ho => by
      rcases (HO'.out j).1 ho with h1 | h1
      · exact h1
      · omega
    have hnc := HH.out.cm
    rw [HM.out.1] at hnc
    have hbw := HB6.out
    rw [← hH] at hbw
    refine (put_any (mc : Int) mo mf Am nm cm Aw nw cw m.made ⟨k, turnB b j y⟩ own' _ HM.out.1 (by omega) hnc ((HH.out.made.less hlt').past hbw) (fun j hj => by
      rcases (HO'.out j).1 hj with h1 | h1
      · have := HOwn.out j h1; have := HS6.out; omega
      · have := HS6.out; omega)).mono ?_
    rintro e w7 ⟨A2, n2, c2', rfl, h1, h2, h3, h4, h5⟩
    have hK7 := HK1.out.past h5
    have hB7 := HB6.out.trans (h5.mono (by have := HS6.out; omega))
    have hS7 : w7.heap.size ≥ H + 2 := by have := hK7.lt; omega
    have HK7 := Lib.hid hK7
    have HB7 := Lib.hid hB7
    have HS7 := Lib.hid hS7
    have HP7 := Lib.hid (And.intro h1 (And.intro h3 h4))
    clear h1 h2 h3 h4 h5 hK7 hB7 hS7 hlt' hbw
    go_wp2_with (refine wpList_store_blk rfl 30 _ _ rfl (H + 1) _ #[.int .i64 (mc : Int), .bool mo, .int .i64 mf, .slice A2 n2 c2', .slice Aw nw cw] rfl rfl HK7.out rfl d_size (d_one (mc : Int) mo mf A2 n2 c2' Aw nw cw) ?_
                 intro w8 hb8 ho8
                 have HK8 := Lib.hid (show Blk w8 (H + 1) [.int .i64 (mc : Int), .bool mo, .int .i64 mf, .slice A2 n2 c2', .slice Aw nw cw] from hb8)
                 have HB8 := Lib.hid (HB7.out.trans (ho8.below (B := H) (fun j _ hj => by omega) (by have := HS7.out; omega)))
                 have HC8 := Lib.hid ((HP7.out.2.2.out (ho8.more fun j _ e => (HO'.out j).2 (.inr e))).less (own' := own) (fun j _ hj => (HO'.out j).2 (.inl hj)))
                 clear hb8 ho8)
    obtain ⟨r0, r1, r2, r3, r4⟩ := HK8.out.five
    refine bodyPost_ret (v := .tuple #[.agg #[.int .i64 (mc : Int), .bool mo, .int .i64 mf, .slice A2 n2 c2', .slice Aw nw cw], .int .i64 0]) (by simp [results, Try.results26, go_sem, r0, r1, r2, r3, r4]) rfl ?_
    have hbe := HB8.out
    rw [← hH] at hbe
    rw [HR.out]
    exact ⟨_, rfl, ⟨A2, n2, c2', Aw, nw, cw, by rw [HMM.out.1, HMM.out.2.1, HMM.out.2.2], HP7.out.1, HM.out.2, ⟨HC8.out, (HH.out.past hbe).wait, by show (put m.made ⟨k, turnB b j y⟩).length ≤ c2'; rw [HP7.out.1]; exact HP7.out.2.1, HH.out.cw⟩⟩, by first | exact hbe | exact HB8.out⟩
  · have hway : decide (i < 0) = true ∨ (decide (i < 0) = false ∧ decide ((mc : Int) ≤ i) = true) ∨ (decide (i < 0) = false ∧ decide ((mc : Int) ≤ i) = false ∧ decide (at_ < 0) = true) ∨ (decide (i < 0) = false ∧ decide ((mc : Int) ≤ i) = false ∧ decide (at_ < 0) = false ∧ decide (128 ≤ at_) = true) := by
      unfold hasB at hb
      simp only [Bool.and_eq_true, decide_eq_true_eq, decide_eq_false_iff_not] at hb ⊢
      omega
    have HE := Lib.hid (hR.trans (by rw [if_neg hb]))
    clear hR hb
    rcases hway with d1 | ⟨d1, d2⟩ | ⟨d1, d2, d3⟩ | ⟨d1, d2, d3, d4⟩
    all_goals
      go_enter Try.func26, Try.ntmps26
      go_wp2_with (refine wpList_store_blk rfl 30 _ _ rfl (H + 1) _ #[.int .i64 (mc : Int), .bool mo, .int .i64 mf, .slice Am nm cm, .slice Aw nw cw] rfl rfl HF.out.2.1 rfl d_size hd0 ?_
                   intro w6 hb6 ho6
                   have HK6 := Lib.hid (show Blk w6 (H + 1) [.int .i64 (mc : Int), .bool mo, .int .i64 mf, .slice Am nm cm, .slice Aw nw cw] from hb6)
                   have HB6 := Lib.hid (HF.out.2.2.trans (ho6.below (B := H) (fun j _ hj => by omega) (by omega)))
                   clear hb6 ho6)
      obtain ⟨r0, r1, r2, r3, r4⟩ := HK6.out.five
      refine bodyPost_ret (v := .tuple #[.agg #[.int .i64 (mc : Int), .bool mo, .int .i64 mf, .slice Am nm cm, .slice Aw nw cw], .int .i64 9]) (by simp [results, Try.results26, go_sem, r0, r1, r2, r3, r4]) rfl ?_
      have hbe := HB6.out
      rw [← hH] at hbe
      rw [HE.out]
      exact ⟨_, rfl, ⟨Am, nm, cm, Aw, nw, cw, by rw [HMM.out.1, HMM.out.2.1, HMM.out.2.2], HM.out.1, HM.out.2, HH.out.past hbe⟩, by first | exact hbe | exact HB6.out⟩
end Go.Proofs.Ytpdhnkmihlgdjaa
