/- DiskPlays walked: any row of acts. -/
import Derived.Test.YtpdhnkmihlgdjaaPlA
namespace Go.Proofs.Ytpdhnkmihlgdjaa
open Go.RowKit Me Rw Ds

set_option maxRecDepth 100000 in
set_option maxHeartbeats 4000000 in
theorem plays_good (cn : Nat) (A : Option Addr) (n c : Nat) (acts : List AD) (h1 : 1 ≤ cn) (h40 : cn ≤ 40) (hn : n ≤ 100) (hl : acts.length = n) (w : World) (hA : Ads w w.heap.size A acts) :
    Calls Try.prog 3 #[.int .i64 (cn : Int), .slice A n c] w fun e w' => e = .returned (.bool true) ∧ Below w.heap.size w w' := by
  have d1 : decide ((40 : Int) < (cn : Int)) = false := by simp; omega
  have d2 : decide ((100 : Int) < (n : Int)) = false := by simp; omega
  have d3 : decide ((cn : Int) < 1) = false := by simp; omega
  have HA := Lib.hid hA
  have HL := Lib.hid hl
  clear hA hl
  go_enter Try.func3, Try.ntmps3
  go_wp2_with fail
  refine (new_any cn (by omega) (by omega) w).mono ?_
  rintro e w1 ⟨D, own1, rfl, hd1, hb1⟩
  have HD1 := Lib.hid hd1
  have HB1 := Lib.hid hb1
  have hs1 := hb1.size
  clear hd1 hb1
  go_wp2_with fail
  refine (rnew_any (cn : Int) w1).mono ?_
  rintro e w2 ⟨rfl, hb2⟩
  have hs2 := hb2.size
  obtain ⟨X0, hX⟩ : ∃ X, w2.heap.size = X := ⟨_, rfl⟩
  obtain ⟨WX, hWX⟩ : ∃ WX, w2.alloc (.cells #[.int .i64 0, .bool false, .int .i64 0, .slice none 0 0, .slice none 0 0] 30) = WX := ⟨_, rfl⟩
  have hX0 : Blk WX X0 [.int .i64 0, .bool false, .int .i64 0, .slice none 0 0, .slice none 0 0] := by rw [← hWX, ← hX]; exact Blk.new w2 _ _
  have hbX : Below X0 w2 WX := by rw [← hWX, ← hX]; exact (Below.refl _ _).alloc (Nat.le_refl _) _
  have hsX := hbX.size
  have HX0 := Lib.hid hX0
  have HBX := Lib.hid hbX
  have HB2 := Lib.hid hb2
  clear hX0 hbX hb2
  go_wp2_with (first
    | (refine wpList_store_blk rfl 30 _ _ rfl X0 _ #[.int .i64 (cn : Int), .bool false, .int .i64 (-1), .slice none 0 0, .slice none 0 0] rfl rfl HX0.out rfl d_size (d_one _ _ _ _ _ _ _ _ _) ?_
       intro w3 hb3 ho3
       have HX3 := Lib.hid (show Blk w3 X0 [.int .i64 (cn : Int), .bool false, .int .i64 (-1), .slice none 0 0, .slice none 0 0] from hb3)
       have HO3 := Lib.hid ho3
       clear hb3 ho3)
    | fail)
  have hb13 : Below w1.heap.size w1 w3 := HB2.out.trans ((HBX.out.mono (by omega)).trans (HO3.out.below (fun j _ hj => by omega) (by omega)))
  have HPI := Lib.hid (show PI w w3 D X0 cn 0 from ⟨newD cn, ⟨cn, false, -1, [], []⟩, own1, none, 0, 0, none, 0, 0, HD1.out.past hb13, ⟨Cy.empty, Cy.empty, Nat.le_refl _, Nat.le_refl _⟩, rfl, rfl, rel_new cn h1 (by omega), ⟨Nat.le_refl _, Nat.le_refl _, by show (-1 : Int) ≤ _; omega⟩, rfl, HX3.out, HB1.out.trans (hb13.mono (by omega)), by omega⟩)
  clear hb13 hWX hX hsX hs2
  go_loopw [8] (fun iv wr => ∃ k : Nat, k ≤ n ∧ iv = .int .i64 k ∧ Hid (PI w wr D X0 cn k)) (fun iv _ => n - (intOf iv).toNat)
  case atStart => exact ⟨0, Nat.zero_le _, rfl, HPI⟩
  rotate_left
  obtain ⟨k, hk, rfl, HP⟩ := hrel
  by_cases hlt : k < n
  · have hp := HP.out
    obtain ⟨S, m, own, Am, nm, cm, Aw, nw, cw, hd, hr, hm, hw, hR, hs, hc, hbx, hbw, hwx⟩ := hp
    obtain ⟨a, rfl, hab, hacts⟩ := HA.out (by rw [HL.out]; omega)
    obtain ⟨p, hp⟩ : ∃ p, acts[k]? = some p := ⟨_, List.getElem?_eq_getElem (by rw [HL.out]; exact hlt)⟩
    have hat := hacts k p hp
    have hlo := hbx.lt
    have hq : (k : Int) < (n : Int) := by omega
    obtain ⟨V, hV⟩ : ∃ V, V = Value.agg #[.int .i64 (m.count : Int), .bool m.off, .int .i64 m.fuse, .slice Am nm cm, .slice Aw nw cw] := ⟨_, rfl⟩
    have HV := Lib.hid hV
    have HST := Lib.hid (And.intro hd (And.intro hr (And.intro hm (And.intro hw (And.intro hR (And.intro hs (And.intro hc (And.intro hbx (And.intro hbw hat)))))))))
    obtain ⟨N, hN⟩ : ∃ N, wr.heap.size = N := ⟨_, rfl⟩
    obtain ⟨S', hS'⟩ : ∃ S', actD S p = S' := ⟨_, rfl⟩
    obtain ⟨m', hm'⟩ : ∃ m', actM m p = m' := ⟨_, rfl⟩
    have hra := rel_act hR hat.2
    rw [hS', hm'] at hra
    have HRA := Lib.hid hra
    have HSM := Lib.hid (And.intro hS' hm')
    have hcount : m'.count = cn := by rw [← hm', act_count, hc]
    have HCN := Lib.hid hcount
    clear hd hr hm hw hR hs hc hbx hbw hat hacts hp hV hS' hm' hra hcount
    go_wp2_with fail
    refine wp_region_phase_tl 12 (PlR N) (PlR.refl N) (fun _ _ _ => PlR.trans) (PlI N own wr) (plG w.heap.size D X0 N k n c a V p S' m') [6] [55, 56, 57, 58, 59, 60, 61, 54, 62, 63, 10, 9] [([5], none, [0], false), ([7], none, [0], false), ([1], none, [0], false), ([8], none, [0], false), ([57, 58], none, [0], false), ([59], none, [0], false), ([55, 56, 60], none, [0], true), ([61], none, [1], false), ([54], none, [1], false), ([54], none, [1], false), ([], none, [0, 1], false), ([62], none, [1], false), ([10, 63], none, [1], false)] 115 1 (by kernel_rfl) (by kernel_rfl) rfl ?hRd ?hI ?h0 ?hreq rfl ?hend
    case hRd => exact PlR.below ((Below.refl _ _).drew)
    case hI =>
      rw [PlI, if_pos rfl]
      exact ⟨(Below.refl _ _).drew, fun j hj hlt => by have hlt : j < wr.heap.size := hlt; omega⟩
    case h0 =>
      intro t W hnd _
      unfold plG
      split <;> first | rfl | trivial | exact absurd (by simp) hnd
    case hreq =>
      refine ⟨⟨?_, trivial⟩, ⟨?_, trivial⟩, ⟨?_, trivial⟩, ⟨?_, trivial⟩, ⟨?_, trivial⟩, ⟨?_, trivial⟩, ⟨?_, trivial⟩, ⟨?_, trivial⟩, ⟨?_, trivial⟩, ⟨?_, trivial⟩, ⟨?_, ?_, trivial⟩, ⟨?_, trivial⟩, trivial⟩
      all_goals
        intro ac W hR hI hk
        simp only [Gw.Knows, plG] at hk
      · simp [go_sem, Gw.POpReq, Gw.OkP, Gw.PPost, Gw.HoldsR, plG, PlR.refl, hI, hk]
      · rw [PlI, if_pos rfl] at hI
        have hbx := HST.out.2.2.2.2.2.2.2.1.keep (hI.1.block X0 (by omega))
        obtain ⟨k0, k1, k2, k3, k4⟩ := hbx.five
        have hV := HV.out
        have hI' : PlI N own wr 0 W := by rw [PlI, if_pos rfl]; exact hI
        simp [go_sem, Gw.POpReq, Gw.OkP, Gw.PPost, Gw.HoldsR, plG, PlR.refl, hI', hk, k0, k1, k2, k3, k4, hV]
      · simp [go_sem, Gw.POpReq, Gw.OkP, Gw.PPost, Gw.HoldsR, plG, PlR.refl, hI, hk]
      · simp [go_sem, Gw.POpReq, Gw.OkP, Gw.PPost, Gw.HoldsR, plG, PlR.refl, hI, hk]
      · simp [go_sem, Gw.POpReq, Gw.OkP, Gw.PPost, Gw.HoldsR, plG, PlR.refl, hI, hk, hlt]
      · have hI2 := hI
        rw [PlI, if_pos rfl] at hI2
        obtain ⟨f0, f1, f2, f3, f4, f5, f6⟩ := act_cells HST.out.2.2.2.2.2.2.2.2.2
        have hbw := HST.out.2.2.2.2.2.2.2.2.1
        have hbs := hbw.size
        have up : ∀ q : Addr, q.block = (a.add (k * 7)).block → W.cell? q = w.cell? q := fun q hq => (hI2.1.cell (by rw [hq, block_add]; omega)).trans (hbw.cell (by rw [hq, block_add]; exact hab))
        have f0 := (up _ rfl).trans f0
        have f1 := (up _ (by rfl)).trans f1
        have f2 := (up _ (by rfl)).trans f2
        have f3 := (up _ (by rfl)).trans f3
        have f4 := (up _ (by rfl)).trans f4
        have f5 := (up _ (by rfl)).trans f5
        have f6 := (up _ (by rfl)).trans f6
        simp [go_sem, Gw.POpReq, Gw.OkP, Gw.PPost, Gw.HoldsR, plG, PlR.refl, hI, hk, f0, f1, f2, f3, f4, f5, f6, aVs]
      · have hI2 := hI
        rw [PlI, if_pos rfl] at hI2
        simp [go_sem, Gw.POpReq, Gw.OkP, Gw.PPost, Gw.HoldsR, plG, hk]
        have hbW : Below wr.heap.size wr W := by rw [hN]; exact hI2.1
        have hNW := hbW.size
        rw [hN] at hNW
        have hown : ∀ j, own j → j < N := fun j hj => by have := (HST.out.1.lt hj).2; omega
        refine (does_any (HST.out.1.past hbW) (m := m) (v := V) (by rw [HV.out]; exact ⟨Am, nm, cm, Aw, nw, cw, rfl, HST.out.2.2.1, HST.out.2.2.2.1, HST.out.2.1.past hbW⟩) HST.out.2.2.2.2.1 HST.out.2.2.2.2.2.1 (by omega) p HST.out.2.2.2.2.2.2.2.2.2.2).mono ?_
        rw [HSM.out.1, HSM.out.2]
        rintro e w5 ⟨u, own', rfl, g1, g2, g3, g4, g5, cs, g6, g7⟩
        have hlate : Late N w5 := ⟨_, cs, by omega, g6, g7⟩
        refine ⟨_, rfl, ⟨fun j hj hb => hb.out g3 (fun ho => by have := hown j ho; omega), .inr hI2.2, g3.size⟩, ?_, fun W' hW' => ⟨u, rfl, PlJ.reach ⟨hlate, own', g1, g2⟩ hW'⟩⟩
        show PlI N own wr 1 w5
        rw [PlI, if_neg (by omega)]
        exact ⟨hlate, (Out.of_below hbW).trans g3⟩
      · obtain ⟨⟨u, he, hj⟩, -⟩ := hk
        simp [go_sem, Gw.POpReq, Gw.OkP, Gw.PPost, Gw.HoldsR, plG, PlR.refl, hI, he]
        exact fun W' hW' => hj.reach hW'
      · obtain ⟨⟨u, he, hj⟩, -⟩ := hk
        simp [go_sem, Gw.POpReq, Gw.OkP, Gw.PPost, Gw.HoldsR, plG, PlR.refl, hI, he]
      · obtain ⟨⟨u, he, hj⟩, -⟩ := hk
        simp [go_sem, Gw.POpReq, Gw.OkP, Gw.PPost, Gw.HoldsR, plG, PlR.refl, hI, he]
        exact fun W' hW' => hj.reach hW'
      · have hI2 := hI
        rw [PlI, if_pos rfl] at hI2
        have hba : Below W.heap.size W (W.alloc (.cells #[.int .i64 0, .bool false, .int .i64 0, .slice none 0 0, .slice none 0 0] 30)) := (Below.refl _ _).alloc (Nat.le_refl _) _
        have hNW : N ≤ W.heap.size := by have := hI2.1.size; omega
        simp [go_sem, Gw.POpReq, Gw.OkP, Gw.PPost, Gw.HoldsR, plG]
        refine ⟨PlR.below hba, ?_, fun W' hW' => ⟨hNW, hW'.1 _ hNW (Blk.new W zBox _)⟩⟩
        rw [PlI, if_pos rfl]
        refine ⟨hI2.1.trans (hba.mono hNW), fun j hj hlt => ?_⟩
        by_cases e : j < W.heap.size
        · exact (hI2.2 j hj e).past hba
        · have : j = W.heap.size := by simp at hlt; omega
          subst this
          exact Blk.new W zBox _
      · have hI2 := hI
        rw [PlI, if_neg (by omega)] at hI2
        obtain ⟨⟨j, cs, q1, q2, q3⟩, q4⟩ := hI2
        have hba : Below W.heap.size W (W.alloc (.cells #[.int .i64 0, .bool false, .int .i64 0, .slice none 0 0, .slice none 0 0] 30)) := (Below.refl _ _).alloc (Nat.le_refl _) _
        have hNW : N ≤ W.heap.size := by have := q4.size; omega
        simp [go_sem, Gw.POpReq, Gw.OkP, Gw.PPost, Gw.HoldsR, plG]
        refine ⟨PlR.below hba, ?_, fun W' hW' => ⟨hNW, hW'.1 _ hNW (Blk.new W zBox _)⟩⟩
        rw [PlI, if_neg (by omega)]
        exact ⟨⟨j, cs, q1, q2.past hba, q3⟩, q4.trans (.of_below hba)⟩
      · simp [go_sem, Gw.POpReq, Gw.OkP, Gw.PPost, Gw.HoldsR, plG, PlR.refl, hI, hk]
    case hend =>
      intro x' w4 hR hI hx
      have h9 : x' 9 = .bool true := (hx 9 (by simp)) w4 (PlR.refl N w4)
      obtain ⟨Y, h10, hNY, hbY⟩ := (hx 10 (by simp)) w4 (PlR.refl N w4)
      obtain ⟨-, own', g1, Am', nm', cm', Aw', nw', cw', h63, gm, gw, g2⟩ := (hx 63 (by simp)) w4 (PlR.refl N w4)
      rw [PlI, if_neg (by omega)] at hI
      have HI := Lib.hid hI
      have HG := Lib.hid (And.intro g1 (And.intro g2 (And.intro gm gw)))
      have HY := Lib.hid hbY
      clear hx hR hI g1 g2 gm gw hbY
      simp only [Gw.putAll, Act.put, List.setIfInBounds_toArray, List.set_cons_zero, List.set_cons_succ]
      rw [h9, h10, h63]
      refine tl_store 30 _ _ rfl Y _ #[.int .i64 (m'.count : Int), .bool m'.off, .int .i64 m'.fuse, .slice Am' nm' cm', .slice Aw' nw' cw'] rfl rfl HY.out rfl d_size (d_one _ _ _ _ _ _ _ _ _) ?_
      intro w5 hb5 ho5
      have HB5 := Lib.hid hb5
      have HO5 := Lib.hid ho5
      obtain ⟨p0, p1, p2, p3, p4⟩ := (show Blk w5 Y [.int .i64 (m'.count : Int), .bool m'.off, .int .i64 m'.fuse, .slice Am' nm' cm', .slice Aw' nw' cw'] from hb5).five
      clear hb5 ho5 h9 h10 h63
      refine tl_nil ?_
      simp only [Act.put]
      have hs5 := HO5.out.size
      have hown : ∀ j, own j → j < N := fun j hj => by have := (HST.out.1.lt hj).2; omega
      have hX4 : Blk w4 X0 [.int .i64 (m.count : Int), .bool m.off, .int .i64 m.fuse, .slice Am nm cm, .slice Aw nw cw] := HST.out.2.2.2.2.2.2.2.1.out HI.out.2 (box_apart HST.out.1 HST.out.2.2.2.2.2.2.2.1 rfl)
      have hX5 := hX4.out HO5.out (by omega)
      have HX5 := Lib.hid hX5
      have hd5 := HG.out.1.out HO5.out (fun j hj e => box_apart HG.out.1 HY.out rfl (by rw [← e]; exact hj))
      have hr5 : RefAt w5 own' m' Am' cm' Aw' cw' := ((ref_box HG.out.2.1 HY.out).out (HO5.out.more fun j _ e => .inr e)).less (fun j _ hj => .inl hj)
      have hs4 := HI.out.2.size
      have hb5 : Below w.heap.size w w5 := (HST.out.2.2.2.2.2.2.2.2.1.trans (HI.out.2.below (fun j _ hj => (HST.out.1.lt hj).1) (by omega))).trans (HO5.out.below (fun j _ e => by omega) (by omega))
      have HG5 := Lib.hid (And.intro hd5 (And.intro hr5 hb5))
      clear hX4 hX5 hd5 hr5 hb5
      go_wp2_with (first
        | (refine wpList_store_blk rfl 30 _ _ rfl X0 _ #[.int .i64 (m'.count : Int), .bool m'.off, .int .i64 m'.fuse, .slice Am' nm' cm', .slice Aw' nw' cw'] rfl rfl HX5.out rfl d_size (d_one _ _ _ _ _ _ _ _ _) ?_
           intro w6 hb6 ho6
           have HB6 := Lib.hid (show Blk w6 X0 [.int .i64 (m'.count : Int), .bool m'.off, .int .i64 m'.fuse, .slice Am' nm' cm', .slice Aw' nw' cw'] from hb6)
           have HO6 := Lib.hid ho6
           clear hb6 ho6)
        | fail)
      have hd6 := HG5.out.1.out HO6.out (fun j hj e => box_apart HG5.out.1 HX5.out rfl (by rw [← e]; exact hj))
      have hr6 : RefAt w6 own' m' Am' cm' Aw' cw' := ((ref_box HG5.out.2.1 HX5.out).out (HO6.out.more fun j _ e => .inr e)).less (fun j _ hj => .inl hj)
      have hb6 : Below w.heap.size w w6 := HG5.out.2.2.trans (HO6.out.below (fun j _ e => by omega) (by have := HG5.out.2.2.size; omega))
      have HG6 := Lib.hid (And.intro hd6 (And.intro hr6 hb6))
      obtain ⟨o, ho⟩ : ∃ o, o = S'.on := ⟨_, rfl⟩
      have hmo : m'.off = !o := by rw [ho]; exact HRA.out.1.off
      have hwl : S'.pend.length = nw' := by rw [← HG.out.2.2.2, HRA.out.1.wait]
      have hsl : S'.stored.length = cn := by rw [← HRA.out.1.count]; exact HCN.out
      have hxx : (o == !o) = false := by cases o <;> rfl
      have HMO := Lib.hid (And.intro ho (And.intro hmo (And.intro hwl hsl)))
      clear hd6 hr6 hb6 ho hmo hwl hsl
      try go_wp2_with fail
      refine Gw.wp_region_grow (plH D X0 cn nw' cw' Aw' o) [65, 66, 67, 68, 69, 70, 71, 72, 73, 74, 75, 76, 77, 78, 79, 80, 81, 82, 83, 84, 85, 86, 87] [([9], none), ([65], none), ([66], none), ([5, 67], some (67, false)), ([68, 67], some (67, false)), ([7, 67], some (67, false)), ([70, 67], some (67, false)), ([69, 71, 67], some (67, false)), ([67, 72], none), ([73], none), ([5, 74], some (74, false)), ([75, 74], some (74, false)), ([7, 74], some (74, false)), ([77, 74], some (74, false)), ([78, 74], some (74, false)), ([76, 79, 74], some (74, false)), ([74, 80], none), ([81], none), ([5, 82], some (82, false)), ([83, 82], some (82, false)), ([0, 82], some (82, false)), ([84, 85, 82], some (82, false)), ([82, 86], none)] 115 (by kernel_rfl) (by kernel_rfl) rfl ?g0 ?greq ?gend
      case g0 =>
        intro t W hnd _
        unfold plH
        split <;> first | rfl | trivial | exact absurd (by simp) hnd
      case greq =>
        refine ⟨?_, ?_, ?_, ?_, ?_, ?_, ?_, ?_, ?_, ?_, ?_, ?_, ?_, ?_, ?_, ?_, ?_, ?_, ?_, ?_, ?_, ?_, ?_, trivial⟩
        all_goals
          intro ac W hg hk
          have hbx := HB6.out.past (show Below w6.heap.size w6 W from hg)
          rw [HMO.out.2.1] at hbx
          obtain ⟨k0, k1, k2, k3, k4⟩ := hbx.five
          simp only [Gw.Knows, plH] at hk
          try (simp [go_sem, Gw.OpReq, Gw.Ok, Gw.Post, Gw.Holds, plH, Gw.Grows.refl, hk, k1, k4, hxx]; done)
        · simp [go_sem, Gw.OpReq, Gw.Ok, Gw.Post, Gw.Holds, plH, Gw.Grows.refl, hk]
          refine (on_any (HG6.out.1.past hg)).mono ?_
          rintro e w7 ⟨rfl, rfl⟩
          exact ⟨_, rfl, Gw.Grows.refl _, fun _ _ => by rw [HMO.out.1]⟩
        · simp [go_sem, Gw.OpReq, Gw.Ok, Gw.Post, Gw.Holds, plH, Gw.Grows.refl, hk]
          refine (waiting_any (HG6.out.1.past hg)).mono ?_
          rintro e w7 ⟨rfl, rfl⟩
          exact ⟨_, rfl, Gw.Grows.refl _, fun _ _ => by rw [HMO.out.2.2.1]⟩
        · simp [go_sem, Gw.OpReq, Gw.Ok, Gw.Post, Gw.Holds, plH, Gw.Grows.refl, hk]
          refine (count_any (HG6.out.1.past hg)).mono ?_
          rintro e w7 ⟨rfl, rfl⟩
          exact ⟨_, rfl, Gw.Grows.refl _, fun _ _ => by rw [HMO.out.2.2.2]⟩
      case gend =>
        intro x2 w7 hg hx
        have h87 : x2 87 = .bool false := (hx 87 (by simp)).now
        have hb7 : Below w6.heap.size w6 w7 := hg
        have HN := Lib.hid (show PI w w7 D X0 cn (k + 1) from ⟨S', m', own', Am', nm', cm', Aw', nw', cw', HG6.out.1.past hb7, HG6.out.2.1.past hb7, HG.out.2.2.1, HG.out.2.2.2, HRA.out.1, HRA.out.2 k HST.out.2.2.2.2.2.1, HCN.out, HB6.out.past hb7, HG6.out.2.2.trans (hb7.mono HG6.out.2.2.size), by omega⟩)
        clear hx hg hb7
        simp only [Gw.putAll, Act.put, List.setIfInBounds_toArray, List.set_cons_zero, List.set_cons_succ]
        rw [h87]
        go_wp2
        go_roundw
        case rel => exact ⟨k + 1, by omega, by go_num, HN⟩
        case measure => simp [intOf]; omega
  · have hkn : k = n := by omega
    subst hkn
    have hp := HP.out
    obtain ⟨S, m, own, Am, nm, cm, Aw, nw, cw, hd, hr, hm, hw, hR, hs, hc, hbx, hbw, hwx⟩ := hp
    have HST := Lib.hid (And.intro hd (And.intro hr (And.intro hm (And.intro hw (And.intro hR (And.intro hs (And.intro hc (And.intro hbx hbw))))))))
    obtain ⟨mc, hmc⟩ : ∃ mc, (m.count : Int) = mc := ⟨_, rfl⟩
    obtain ⟨mo, hmo⟩ : ∃ mo, m.off = mo := ⟨_, rfl⟩
    obtain ⟨mf, hmf⟩ : ∃ mf, m.fuse = mf := ⟨_, rfl⟩
    rw [hmc, hmo, hmf] at hbx
    have HBx := Lib.hid hbx
    have HMV := Lib.hid (And.intro hmc (And.intro hmo hmf))
    have hwz := hbw.size
    clear hd hr hm hw hR hs hc hbx hbw hmc hmo hmf HP HPI
    generalize wr = w8 at *
    go_wp2_with fail
    go_loopw [11] (fun iv wr => ∃ i : Int, -1 ≤ i ∧ i ≤ (cn : Int) + 1 ∧ iv = .int .i64 i ∧ Hid (Below w8.heap.size w8 wr)) (fun iv _ => ((cn : Int) + 1 - intOf iv).toNat)
    case atStart => exact ⟨-1, by omega, by omega, rfl, Lib.hid (Below.refl _ _)⟩
    rotate_left
    obtain ⟨i, hi1, hi2, rfl, HB⟩ := hrel
    have hsr := HB.out.size
    by_cases hlt : i ≤ (cn : Int)
    · have q0 : decide (i ≤ (cn : Int)) = true := by simp; omega
      have hre := rel_readE HST.out.2.2.2.2.1 i
      have hrr := rel_read HST.out.2.2.2.2.1 i
      obtain ⟨x, hx⟩ : ∃ x, readE S i = x := ⟨_, rfl⟩
      obtain ⟨l, hl⟩ : ∃ l, readD S i = l := ⟨_, rfl⟩
      rw [hx] at hre
      rw [hl] at hrr
      have HX := Lib.hid (And.intro hx hl)
      have HXR := Lib.hid (And.intro hre hrr)
      clear hx hl hre hrr
      go_wp2_with fail
      refine (read_any (HST.out.1.past HB.out) i (by have := HST.out.2.2.2.2.2.1.pend; omega)).mono ?_
      rw [HX.out.1, HX.out.2]
      rintro e w9 ⟨hb9, A9, n9, rfl, hn9, hA9⟩
      have HB9 := Lib.hid (HB.out.trans (hb9.mono hsr))
      have hs9 := hb9.size
      have HRd := Lib.hid (show Rd w9 w9.heap.size A9 l from fun hp => by
        obtain ⟨b, rfl, -, hbk⟩ := hA9 (by omega)
        exact ⟨_, rfl, hbk.lt, fun j u hu => by rw [Addr.add_mid, Nat.zero_add]; exact hbk.cell (cellsOf_get hu)⟩)
      have HLN := Lib.hid hn9
      obtain ⟨k0, k1, k2, k3, k4⟩ := (HBx.out.past HB9.out).five
      clear hb9 hn9 hA9
      go_wp2_with fail
      have hc := rread_any (own := own) (w := w9) (HST.out.2.1.past HB9.out) HST.out.2.2.1 HST.out.2.2.2.1 (by have := HST.out.2.2.2.2.2.1.made; have := HST.out.2.2.1; have := HST.out.2.2.2.1; omega) (by have := HST.out.2.2.2.2.2.1.made; have := HST.out.2.2.1; have := HST.out.2.2.2.1; omega) i
      rw [HMV.out.1, HMV.out.2.1, HMV.out.2.2, HXR.out.1, HXR.out.2] at hc
      refine hc.mono ?_
      clear hc
      rintro e w10 ⟨rfl, hb10⟩
      have e1 := str_any A9 n9 n9 l w10 _ HLN.out (HRd.out.below hb10)
      have HN := Lib.hid (HB9.out.trans (hb10.mono (by omega)))
      clear hb10 k0 k1 k2 k3 k4
      go_wp2
      go_roundw
      case rel => exact ⟨i + 1, by omega, by omega, by go_num, HN⟩
      case measure => simp [intOf]; omega
    · have q0 : decide (i ≤ (cn : Int)) = false := by simp; omega
      go_wp2_with (go_at_call 7; refine (awake_any _).mono ?_; rintro e w9 ⟨rfl, hb⟩; have HB9 := Lib.hid (HB.out.trans (hb.mono hsr)); clear hb)
      go_ret
      exact ⟨rfl, HST.out.2.2.2.2.2.2.2.2.trans (HB9.out.mono hwz)⟩
set_option maxRecDepth 100000 in
set_option maxHeartbeats 1000000 in
theorem plays_far (count : Int) (A : Option Addr) (n c : Nat) (h : 40 < count ∨ 100 < n) (w : World) :
    Calls Try.prog 3 #[.int .i64 count, .slice A n c] w fun e w' => e = .returned (.bool true) ∧ Below w.heap.size w w' := by
  have hway : decide ((40 : Int) < count) = true ∨ (decide ((40 : Int) < count) = false ∧ decide ((100 : Int) < (n : Int)) = true) := by simp; omega
  clear h
  rcases hway with d1 | ⟨d1, d2⟩
  all_goals
    go_enter Try.func3, Try.ntmps3
    go_wp2_with (go_at_call 7; refine (awake_any _).mono ?_; rintro e w9 ⟨rfl, hb⟩; have HB9 := Lib.hid hb; clear hb)
    go_ret
    exact ⟨rfl, HB9.out⟩
set_option maxRecDepth 100000 in
set_option maxHeartbeats 1000000 in
theorem plays_bad (count : Int) (A : Option Addr) (n c : Nat) (h : count < 1) (hn : n ≤ 100) (w : World) :
    Calls Try.prog 3 #[.int .i64 count, .slice A n c] w fun e w' => e = .returned (.bool true) ∧ Below w.heap.size w w' := by
  have d1 : decide ((40 : Int) < count) = false := by simp; omega
  have d2 : decide ((100 : Int) < (n : Int)) = false := by simp; omega
  have d3 : decide (count < 1) = true := by simp; omega
  go_enter Try.func3, Try.ntmps3
  go_wp2_with (first
    | (go_at_call 8; refine (new_bad count (.inl h) _).mono ?_; rintro e w1 ⟨rfl, rfl⟩)
    | (go_at_call 7; refine (awake_any _).mono ?_; rintro e w9 ⟨rfl, hb⟩; have HB9 := Lib.hid hb; clear hb))
  go_ret
  exact ⟨rfl, HB9.out⟩
end Go.Proofs.Ytpdhnkmihlgdjaa
