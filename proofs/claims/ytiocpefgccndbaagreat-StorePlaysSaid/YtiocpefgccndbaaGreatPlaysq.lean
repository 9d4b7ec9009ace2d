/- StorePlays: any row of acts is answered, and leaves all files, and the manifest, as the document says; opened anew, what was committed is there; for every input. -/
import Derived.ProofKit
import Derived.Lib.SmallJoins
import Derived.Test.YtiocpefgccndbaaGreatKP30
import Derived.Test.YtiocpefgccndbaaGreatKP28
namespace Go.Proofs.YtiocpefgccndbaaGreat
open Go.RowKit Me Mf Rw Ds Va Go.Maps

set_option maxRecDepth 100000 in
set_option maxHeartbeats 8000000 in
theorem splays_walk (count : Int) (A : Option Addr) (n c : Nat) (acts : List AS) (w : World) (hl : acts.length = n) (hn : n ≤ c ∧ c ≤ 9223372036854775807) (ha : SActs w w.heap.size A acts) :
    Calls Tryz.prog 3 #[.int .i64 count, .slice A n c] w fun e w' => e = .returned (.bool true) ∧ Below w.heap.size w w' := by
  have HG := Lib.hid (great_any count A n c acts w w.heap.size hl (by omega) ha)
  have HL := Lib.hid hl
  have HA := Lib.hid ha
  clear hl ha
  go_enter Tryz.func3, Tryz.ntmps3
  go_upto_region 2 with fail
  refine HG.out.mono ?_
  rintro e w1 ⟨⟨g, rfl, hg⟩, rfl⟩
  have HFW := Lib.hid hg
  clear hg HG
  cases g with
  | true =>
    have HAW := Lib.hid (awake_any w)
    go_wp2_with (go_at_call 10; refine HAW.out.mono ?_; rintro e w9 ⟨rfl, hb⟩; have HB9 := Lib.hid hb; clear hb)
    go_ret
    exact ⟨rfl, HB9.out⟩
  | false =>
    obtain ⟨f1, f2, f3, f4⟩ := HFW.out rfl
    have HF4 := Lib.hid f4
    obtain ⟨cn, rfl⟩ : ∃ cn : Nat, count = (cn : Int) := ⟨count.toNat, by omega⟩
    have hcn : 40 ≤ cn ∧ cn ≤ 200 := by omega
    have hn60 : n ≤ 60 := by have := HL.out; omega
    have HBG := Lib.hid (begin_play cn (by omega) (by omega) w)
    clear f1 f2 f3 f4 HFW
    go_upto_region 4 with (go_at_call 11; refine HBG.out.mono ?_; rintro e w1 ⟨G, D, rfl, hp, hb1⟩; have HP := Lib.hid hp; have HB1 := Lib.hid hb1; clear hp hb1)
    have HR0 := Lib.hid (Rest.new (F := fun _ => []) (n := cn) (by omega))
    have HY0 := Lib.hid (ply_new (newD cn) (fun _ => []))
    clear HBG
    go_wp2_with fail
    go_loopw [7] (fun z wr => ∃ (j : Nat) (X : Sto) (F : List UInt8 → List UInt8) (Y : Ply), z = .int .i64 (j : Int) ∧ j ≤ n ∧ Hid (PlayIs wr w.heap.size G D j X Y) ∧ Hid (Rest X F) ∧ Hid (PlyOk X F Y) ∧ Hid (FewY Y j) ∧ Hid (X.S.stored.length = cn) ∧ Hid (Below w.heap.size w wr)) (fun z _ => n - (intOf z).toNat)
    case atStart => exact ⟨0, _, _, _, rfl, Nat.zero_le _, HP, HR0, HY0, Lib.hid few_new, Lib.hid (by simp [newD]), HB1⟩
    case round =>
      clear HP HR0 HY0 HB1
      obtain ⟨j, X, F, Y, rfl, hj, HP, HR, HY, HJ, HC, HB⟩ := hrel
      by_cases hlt : j < n
      · obtain ⟨a, p, rfl, hab, hp, A2, n2, c2, g0, g1, g2, q1, q2, q3, q4⟩ := HA.out.at (i := j) (by rw [HL.out]; exact hlt)
        have HPL := Lib.hid (HF4.out p (List.mem_of_getElem? hp))
        have habk : (a.add (j * 3)).block < w.heap.size := by rw [block_add]; exact hab
        replace g0 := (HB.out.cell habk).trans g0
        replace g1 := (HB.out.cell (p := ⟨(a.add (j * 3)).block, (a.add (j * 3)).off + 1, none⟩) habk).trans g1
        replace g2 := (HB.out.cell (p := ⟨(a.add (j * 3)).block, (a.add (j * 3)).off + 2, none⟩) habk).trans g2
        have hlt' : (j : Int) < (n : Int) := by omega
        have hd := Lib.hid (does_any (HP.out.past (Below.refl _ _).drew) HR.out HY.out HJ.out (by omega) p.kind p.name (by have := HPL.out; omega) A2 n2 c2 p.b q1 (by have := HPL.out; omega) ((q4.below (HB.out.trans ((Below.refl _ _).drew.mono HB.out.size))).more (show w.heap.size ≤ wr.drew.heap.size from HB.out.size)))
        rw [HC.out] at hd
        have g0d : wr.drew.cell? (a.add (j * 3)) = _ := g0
        have g1d : wr.drew.cell? ⟨(a.add (j * 3)).block, (a.add (j * 3)).off + 1, none⟩ = _ := g1
        have g2d : wr.drew.cell? ⟨(a.add (j * 3)).block, (a.add (j * 3)).off + 2, none⟩ = _ := g2
        obtain ⟨kind, hkind⟩ : ∃ k, k = p.kind := ⟨_, rfl⟩
        obtain ⟨nm, hnm⟩ : ∃ k, k = p.name := ⟨_, rfl⟩
        rw [← hkind, ← hnm] at hd
        rw [← hkind] at g0d
        rw [← hnm] at g1d
        have hwsz := HB.out.size
        clear hp q1 q2 q3 q4 g0 g1 g2 habk hab hkind hnm HP HR HY HJ HC
        go_upto_region 9 with fail
        refine Gw.wp_region_phase (plR wr.heap.size) (plR_refl _) (plR_trans _) (plJ w wr G D j cn) (plF G cn j n c n2 c2 a A2 kind nm) [5] [33, 34, 35, 36, 37, 38, 39, 40, 41, 42, 43, 44, 45, 46, 47, 48, 49, 50, 51, 52, 53, 54, 55, 56, 57, 58, 59, 60, 61, 62, 63, 64, 65, 66, 67] [([5], none, [0], false), ([1], none, [0], false), ([7], none, [0], false), ([34, 35], none, [0], false), ([36], none, [0], false), ([33, 37], none, [0], true), ([38], none, [1], false), ([39], none, [1], false), ([5, 40], some (40, false), [1], false), ([41, 40], some (40, false), [1], false), ([42, 40], some (40, false), [1], false), ([43, 40], some (40, false), [1], false), ([44, 40], some (40, false), [1], false), ([5, 40], some (40, false), [1], false), ([46, 40], some (40, false), [1], false), ([47, 40], some (40, false), [1], false), ([48, 40], some (40, false), [1], false), ([49, 40], some (40, false), [1], false), ([45, 50, 40], some (40, false), [1], false), ([40, 51], none, [1], false), ([52], none, [1], false), ([5, 53], some (53, false), [1], false), ([54, 53], some (53, false), [1], false), ([55, 53], some (53, false), [1], false), ([56, 53], some (53, false), [1], false), ([57, 53], some (53, false), [1], false), ([5, 53], some (53, false), [1], false), ([59, 53], some (53, false), [1], false), ([60, 53], some (53, false), [1], false), ([61, 53], some (53, false), [1], false), ([0, 53], some (53, false), [1], false), ([62, 63, 53], some (53, false), [1], false), ([64, 53], some (53, false), [1], false), ([58, 65, 53], some (53, false), [1], false), ([53, 66], none, [1], false)] 139 1 (by kernel_rfl) (by kernel_rfl) rfl (plR_grow (Below.refl _ _).drew) ?hI ?h0 ?hreq ?hend
        case hI => rw [plJ, if_pos rfl]
        case h0 =>
          intro t W hnd _
          unfold plF
          split <;> first | (exfalso; apply hnd; decide) | rfl | trivial
        case hreq =>
          refine ⟨⟨?_, trivial⟩, ⟨?_, trivial⟩, ⟨?_, trivial⟩, ⟨?_, trivial⟩, ⟨?_, trivial⟩, ⟨?_, trivial⟩, ⟨?_, trivial⟩, ⟨?_, trivial⟩, ⟨?_, trivial⟩, ⟨?_, trivial⟩, ⟨?_, trivial⟩, ⟨?_, trivial⟩, ⟨?_, trivial⟩, ⟨?_, trivial⟩, ⟨?_, trivial⟩, ⟨?_, trivial⟩, ⟨?_, trivial⟩, ⟨?_, trivial⟩, ⟨?_, trivial⟩, ⟨?_, trivial⟩, ⟨?_, trivial⟩, ⟨?_, trivial⟩, ⟨?_, trivial⟩, ⟨?_, trivial⟩, ⟨?_, trivial⟩, ⟨?_, trivial⟩, ⟨?_, trivial⟩, ⟨?_, trivial⟩, ⟨?_, trivial⟩, ⟨?_, trivial⟩, ⟨?_, trivial⟩, ⟨?_, trivial⟩, ⟨?_, trivial⟩, ⟨?_, trivial⟩, ⟨?_, trivial⟩, trivial⟩
          case refine_1 | refine_2 | refine_3 | refine_4 | refine_5 | refine_6 =>
            intro ac W hR hI hk
            rw [plJ, if_pos rfl] at hI
            subst hI
            simp only [Gw.Knows, plF] at hk
            first
              | (simp [go_sem, Gw.POpReq, Gw.OkP, Gw.PPost, Gw.HoldsR, plF, plJ, plR_refl, hk, g0d, g1d, g2d, hlt']; done)
              | (simp [go_sem, Gw.POpReq, Gw.OkP, Gw.PPost, Gw.HoldsR, plF, hk]
                 refine hd.out.mono ?_
                 rintro e w3 ⟨X', Y', F', rfl, hr', hY', hj', hs', hp', hb', hsz'⟩
                 exact ⟨_, rfl, ⟨Nat.le_of_lt hsz', fun h => absurd h (Nat.lt_irrefl _)⟩, by rw [plJ, if_neg (by decide)]; exact ⟨hsz', X', F', Y', hr', hY', hj', hs', hp', HB.out.trans (Below.mono ((Below.refl _ _).drew) HB.out.size |>.trans hb')⟩, fun _ _ => rfl⟩)
          all_goals
            intro ac W hR hI hk
            have hJ : AftS w wr G D j cn W := by rw [plJ, if_neg (by decide)] at hI; exact hI
            have hI2 : plJ w wr G D j cn 1 W := hI
            obtain ⟨X, F, Y, P, M, N, own, ownD, A0, n0, c0, hr', hY', hj', hs', hN', hp', hG, k0, k2, k3, k4, hm⟩ := hJ.cells
            have hK : ∀ W', plR wr.heap.size W W' → Below W.heap.size W W' := fun W' hR' => hR'.2 hJ.1
            have K0 : ∀ W', plR wr.heap.size W W' → W'.cell? ⟨G, 0, none⟩ = some (.pointer (some ⟨P, 0, none⟩)) := fun W' hR' => ((hK W' hR').cell hG).trans k0
            have K2 : ∀ W', plR wr.heap.size W W' → W'.cell? ⟨G, 2, none⟩ = some (.int .u64 (Y.m.version : Int)) := fun W' hR' => ((hK W' hR').cell hG).trans k2
            have K3 : ∀ W', plR wr.heap.size W W' → W'.cell? ⟨G, 3, none⟩ = some (.int .u32 (Y.m.next : Int)) := fun W' hR' => ((hK W' hR').cell hG).trans k3
            have K4 : ∀ W', plR wr.heap.size W W' → W'.cell? ⟨G, 4, none⟩ = some (.slice A0 n0 c0) := fun W' hR' => ((hK W' hR').cell hG).trans k4
            simp only [Gw.Knows, plF] at hk
            try (simp [go_sem, Gw.POpReq, Gw.OkP, Gw.PPost, Gw.HoldsR, plF, plR_refl, hI2, hk, k0, k2, k3, k4, K0, K2, K3, K4]; done)
          · simp [go_sem, Gw.POpReq, Gw.OkP, Gw.PPost, Gw.HoldsR, plF, plR_refl, hI2, hk, k0]
            exact K0
          · have e44 : ac.tmps[44]?.getD undef = .pointer (some ⟨P, 0, none⟩) := by have h := hk.1; rw [k0] at h; injection h with h; exact h.symm
            simp [go_sem, Gw.POpReq, Gw.OkP, Gw.PPost, Gw.HoldsR, plF, plR_refl, hI2, e44, hk.2]
            refine (version_any hp'.st).mono ?_
            rintro e w' ⟨rfl, rfl⟩
            exact ⟨_, rfl, plR_refl _ _, hI2, fun W' h => by rw [K2 W' h, hY'.m]⟩
          · simp [go_sem, Gw.POpReq, Gw.OkP, Gw.PPost, Gw.HoldsR, plF, plR_refl, hI2, hk, k2]
            exact K2
          · have e45 : ac.tmps[45]?.getD undef = .int .u64 (Y.m.version : Int) := by have h := hk.1; rw [k2] at h; injection h with h; exact h.symm
            have e50 : ac.tmps[50]?.getD undef = .int .u64 (Y.m.version : Int) := by have h := hk.2.1; rw [k2] at h; injection h with h; exact h.symm
            simp [go_sem, Gw.POpReq, Gw.OkP, Gw.PPost, Gw.HoldsR, plF, plR_refl, hI2, e45, e50, hk.2.2]
          · simp [go_sem, Gw.POpReq, Gw.OkP, Gw.PPost, Gw.HoldsR, plF, plR_refl, hI2, hk, k0]
            exact K0
          · have e57 : ac.tmps[57]?.getD undef = .pointer (some ⟨P, 0, none⟩) := by have h := hk.1; rw [k0] at h; injection h with h; exact h.symm
            simp [go_sem, Gw.POpReq, Gw.OkP, Gw.PPost, Gw.HoldsR, plF, plR_refl, hI2, e57, hk.2]
            refine (sfree_any hp'.st).mono ?_
            rintro e w' ⟨rfl, hb'⟩
            refine ⟨_, rfl, plR_grow hb', by rw [plJ, if_neg (by decide)]; exact hJ.past hb' (by have := hJ.1; omega), fun W' h => ⟨_, rfl, ?_⟩⟩
            have hb2 := hb'.trans ((h.2 (Nat.lt_of_lt_of_le hJ.1 hb'.size)).mono hb'.size)
            rw [hs', ← hY'.m]
            exact FreeIs.past ⟨A0, n0, c0, Y.m, k4, hG, hm, rfl⟩ hb2
          · simp [go_sem, Gw.POpReq, Gw.OkP, Gw.PPost, Gw.HoldsR, plF, plR_refl, hI2, hk, k2, k3, k4]
            exact fun W' h => ⟨_, _, _, rfl, K2 W' h, K3 W' h, K4 W' h⟩
          · obtain ⟨⟨v2, v3, v4, e62, q2, q3, q4⟩, e63, e53, -⟩ := hk
            rw [k2] at q2
            rw [k3] at q3
            rw [k4] at q4
            injection q2 with q2
            injection q3 with q3
            injection q4 with q4
            subst q2 q3 q4
            simp [go_sem, Gw.POpReq, Gw.OkP, Gw.PPost, Gw.HoldsR, plF, plR_refl, hI2, e62, e63, e53]
            have hfl := files_len hr'.ok.fit
            rw [← hY'.m] at hfl
            refine (rfree_any A0 n0 c0 Y.m cn W hm (by have := hm.len; omega) (by omega) (by omega) (fun z hz => ⟨by unfold allBlocks at hz; obtain ⟨f, hf', hz⟩ := List.mem_flatMap.1 hz; rw [hY'.m] at hf'; have := ((hr'.ok.fit.1.2.2.1 f hf').2.2 z hz).1; omega, by rw [hY'.m] at hz; have := hr'.ok.disk z hz; omega⟩)).mono ?_
            rintro e w' ⟨A5, n5, c5, rfl, hl5, -, -, -, hb'⟩
            refine ⟨_, rfl, plR_grow hb', by rw [plJ, if_neg (by decide)]; exact hJ.past hb' (by have := hJ.1; omega), fun W' h => ⟨_, _, _, rfl, ?_⟩⟩
            have hb2 := hb'.trans ((h.2 (Nat.lt_of_lt_of_le hJ.1 hb'.size)).mono hb'.size)
            rw [St.ints_length] at hl5
            exact FreeIs.past ⟨A0, n0, c0, Y.m, k4, hG, hm, hl5.symm⟩ hb2
          · obtain ⟨⟨A5, n5, c5, e64, hfr⟩, e53, -⟩ := hk
            simp [go_sem, Gw.POpReq, Gw.OkP, Gw.PPost, Gw.HoldsR, plF, plR_refl, hI2, e64, e53]
            exact fun W' h => ⟨_, rfl, hfr.past (hK W' h)⟩
          · obtain ⟨⟨L, e58, h58⟩, ⟨L', e65, h65⟩, e53, -⟩ := hk
            have := h58.one h65
            subst this
            simp [go_sem, Gw.POpReq, Gw.OkP, Gw.PPost, Gw.HoldsR, plF, plR_refl, hI2, e58, e65, e53]
        case hend =>
          intro y w5 _ hI hy
          obtain ⟨hsz, X, F, Y, h1, h2, h3, h4, h5, h6⟩ : AftS w wr G D j cn w5 := by rw [plJ, if_neg (by decide)] at hI; exact hI
          have e67 : y 67 = .bool false := hy 67 (by simp) w5 (plR_refl _ _)
          have H1 := Lib.hid h1
          have H2 := Lib.hid h2
          have H3 := Lib.hid h3
          have H4 := Lib.hid h4
          have H5 := Lib.hid h5
          have H6 := Lib.hid h6
          simp only [Gw.putAll, Act.put, List.setIfInBounds_toArray, List.set_cons_zero, List.set_cons_succ]
          rw [e67]
          clear hI hy e67 hsz h1 h2 h3 h4 h5 h6 g0d g1d g2d hd
          go_wp2_with fail
          exact ⟨⟨j + 1, X, F, Y, by simp, hlt, H5, H1, H2, H3, H4, H6⟩, by simp [intOf]; omega⟩
      · have e : j = n := by omega
        subst e
        obtain ⟨P, M, N, own, ownD, hN, hBw, hp⟩ := HP.out
        obtain ⟨A, n0, c0, A2, n2, c2, A3, n3, c3, A4, n4, c4, h1, h2, h3, h4, h5, h6⟩ := hp.box
        have k0 := h1.cell (i := 0) rfl
        have HAL := Lib.hid (all_any hp.st HR.out.lives (by omega))
        have HX1 := Lib.hid h1
        have H2 := Lib.hid h2
        have H3 := Lib.hid h3
        have H4 := Lib.hid h4
        have HPP := Lib.hid hp
        obtain ⟨T, Z, hT, hZ, hans⟩ := HR.out.read
        have HRD := Lib.hid (And.intro hT (And.intro hZ hans))
        clear h1 h2 h3 h4 h5 h6 hp hT hZ hans HP HA HF4
        go_upto_region 12 with (go_at_call 16; refine HAL.out.mono ?_; rintro e w2 ⟨Ax, nx, cx, l, rfl, hil, hll, -, hrx, hb2⟩; have HRX := Lib.hid (show w2.ownsRow wr.heap.size 75 2 (.slice Ax nx cx) nx (fcl Y.now) by rw [← HY.out.all hil]; exact hrx); have HXL := Lib.hid (show Y.now.length = nx by rw [← HY.out.all hil]; unfold allF; rw [List.length_map]; exact hll); have HB2 := Lib.hid hb2; clear hil hll hrx hb2)
        have hP2 := HPP.out.past HB2.out
        have k1 := (HX1.out.past HB2.out).cell (i := 1) rfl
        have hmr := mread_any hP2.st.disk (show X.S.pend.length < 4611686018427387904 by rw [HR.out.calm.pend]; show 0 < _; omega) HRD.out.1 HRD.out.2.1
        rw [HRD.out.2.2] at hmr
        have HMR := Lib.hid hmr
        clear hmr k0 HAL
        clear hP2
        go_upto_region 13 with (go_at_call 17; refine HMR.out.mono ?_; rintro e w3 ⟨hb3, A6, n6, c6, rfl, hm6⟩; have HB3 := Lib.hid hb3; have HM6 := Lib.hid hm6; clear hb3 hm6)
        obtain ⟨w4, hw4⟩ : ∃ w4, w4 = w3.alloc (.cells #[.int .u64 (X.m.version : Int), .int .u32 (X.m.next : Int), .slice A6 n6 c6] 38) := ⟨_, rfl⟩
        obtain ⟨K, hK⟩ : ∃ K, K = w3.heap.size := ⟨_, rfl⟩
        have hb4 : Below w3.heap.size w3 w4 := by rw [hw4]; exact (Below.refl _ _).alloc (Nat.le_refl _) _
        have hbK : Blk w4 K [.int .u64 (X.m.version : Int), .int .u32 (X.m.next : Int), .slice A6 n6 c6] := by rw [hw4, hK]; exact Blk.new w3 [.int .u64 (X.m.version : Int), .int .u32 (X.m.next : Int), .slice A6 n6 c6] _
        have hb24 : Below w2.heap.size w2 w4 := HB3.out.trans (hb4.mono HB3.out.size)
        have hbr4 : Below wr.heap.size wr w4 := HB2.out.trans (hb24.mono HB2.out.size)
        have hx4 := HX1.out.past hbr4
        rw [HY.out.m] at hx4
        have HM6' := Lib.hid (HM6.out.past hb4)
        have HMY := Lib.hid (show ManK own A n0 c0 X.m w4 by rw [← HY.out.m]; exact H2.out.past hbr4)
        have HF4 := Lib.hid (H4.out.out (.of_below hbr4))
        have HRX4 := Lib.hid (own_below' HRX.out hb24)
        have HB4 := Lib.hid hbr4
        have HP4 := Lib.hid (HPP.out.past hbr4)
        have g2 := hx4.cell (i := 2) rfl
        have g3 := hx4.cell (i := 3) rfl
        have g4 := hx4.cell (i := 4) rfl
        have g6 := hx4.cell (i := 6) rfl
        have y0 := hbK.cell (i := 0) rfl
        have y1 := hbK.cell (i := 1) rfl
        have y2 := hbK.cell (i := 2) rfl
        have hxn := HXL.out
        rw [← hw4, ← hK]
        clear hw4 hK hb4 hbK hb24 hbr4 hx4 k1
        refine Gw.wp_region_grow (plX G K nx cx n3 c3 Ax A3 A6 A n6 c6 n0 c0 X.m.version X.m.next) [84, 85, 86, 87, 88, 89, 90, 91, 92, 93, 94, 95, 96, 97, 98, 99, 100, 101, 102, 103, 104, 105, 106, 107] [([9], none), ([84], none), ([85], none), ([8, 86], some (86, false)), ([5, 86], some (86, false)), ([88, 86], some (86, false)), ([89, 86], some (86, false)), ([90, 86], some (86, false)), ([87, 91, 86], some (86, false)), ([92, 86], some (86, false)), ([86, 93], none), ([94], none), ([11, 95], some (95, false)), ([96, 95], some (95, false)), ([95, 97], none), ([98], none), ([10, 99], some (99, false)), ([5, 99], some (99, false)), ([101, 99], some (99, false)), ([102, 99], some (99, false)), ([103, 99], some (99, false)), ([100, 104, 99], some (99, false)), ([105, 99], some (99, false)), ([99, 106], none)] 139 (by kernel_rfl) (by kernel_rfl) rfl ?h0 ?hreq ?hend
        case h0 =>
          intro t W hnd _
          unfold plX
          split <;> first | (exfalso; apply hnd; decide) | rfl | trivial
        case hreq =>
          refine ⟨?_, ?_, ?_, ?_, ?_, ?_, ?_, ?_, ?_, ?_, ?_, ?_, ?_, ?_, ?_, ?_, ?_, ?_, ?_, ?_, ?_, ?_, ?_, ?_, trivial⟩
          all_goals
            intro ac W hg hk
            have hg' : Below w4.heap.size w4 W := hg
            have z2 := (hg'.cell (World.block_lt_of_cell? _ _ g2)).trans g2
            have z3 := (hg'.cell (World.block_lt_of_cell? _ _ g3)).trans g3
            have z4 := (hg'.cell (World.block_lt_of_cell? _ _ g4)).trans g4
            have z6 := (hg'.cell (World.block_lt_of_cell? _ _ g6)).trans g6
            have x0 := (hg'.cell (World.block_lt_of_cell? _ _ y0)).trans y0
            have x1 := (hg'.cell (World.block_lt_of_cell? _ _ y1)).trans y1
            have x2 := (hg'.cell (World.block_lt_of_cell? _ _ y2)).trans y2
            simp only [Gw.Knows, plX] at hk
            try (simp [go_sem, Gw.OpReq, Gw.Ok, Gw.Post, Gw.Holds, plX, Gw.Grows.refl, hk, z2, z3, z4, z6, x0, x1, x2]; done)
          · simp [go_sem, Gw.OpReq, Gw.Ok, Gw.Post, Gw.Holds, plX, Gw.Grows.refl, hk]
            refine (rsame_any Ax nx cx Y.now A3 n3 c3 Y.now W hxn (by have := HJ.out.now; omega) (Cs.of_own (own_below' HRX4.out hg')) HF4.out.len (HF4.out.out (.of_below hg')).at_.now).mono ?_
            rintro e w' ⟨rfl, hb'⟩
            exact ⟨_, rfl, hb', fun _ _ => by simp⟩
          · simp [go_sem, Gw.OpReq, Gw.Ok, Gw.Post, Gw.Holds, plX, Gw.Grows.refl, hk]
            refine (msame_any A6 A n6 n0 c6 c0 X.m X.m W (HM6'.out.past hg').now (HMY.out.past hg').now).mono ?_
            rintro e w' ⟨b, rfl, hb, hb'⟩
            have hbt := hb.2 rfl
            subst hbt
            exact ⟨_, rfl, hb', fun _ _ => rfl⟩
        case hend =>
          intro y w5 hg hy
          have hg' : Below w4.heap.size w4 w5 := hg
          have e107 : y 107 = .bool false := (hy 107 (by simp)).now
          have HP5 := Lib.hid (HP4.out.past hg')
          have HB5 := Lib.hid (HB4.out.trans (hg'.mono HB4.out.size))
          have HF5 := Lib.hid (H3.out.out (.of_below HB5.out))
          simp only [Gw.putAll, Act.put, List.setIfInBounds_toArray, List.set_cons_zero, List.set_cons_succ]
          rw [e107]
          clear hg hg' hy e107 g2 g3 g4 g6 y0 y1 y2 hxn
          have k1 := (HX1.out.past HB5.out).cell (i := 1) rfl
          have hmr := mread_any HP5.out.st.disk (show X.S.pend.length < 4611686018427387904 by rw [HR.out.calm.pend]; show 0 < _; omega) HRD.out.1 HRD.out.2.1
          rw [HRD.out.2.2] at hmr
          have HOP := Lib.hid (open_good (own := own) HP5.out.st.disk (fun k hk => HP5.out.st.own k (.inr (.inr hk))) (fun k hk => HP5.out.st.lt hk) hmr HR.out.ok.fit HR.out.ok.wf HR.out.ok.disk HR.out.ok.big (by rw [HR.out.calm.pend]; show 0 + 64 ≤ _; omega))
          clear hmr
          go_upto_region 16 with (go_at_call 20; refine HOP.out.mono ?_; intro e w6 hop; obtain ⟨P', M', own', ownD', S', rfl, hst, hr', hsz, ho6, hn6, hi6, hd6, hP6, hM6⟩ := hop.rest HR.out; have HS6 := Lib.hid hst; have HR6 := Lib.hid hr'; have HO6 := Lib.hid ho6; clear hop hst hr' hsz ho6 hn6 hi6 hd6 hP6 hM6)
          have HAL := Lib.hid (all_any HS6.out HR6.out.lives (by omega))
          have HYY := Lib.hid (HY.out.forget HR.out.ok.fit S' false)
          have hBr : w.heap.size ≤ w5.heap.size := Nat.le_trans hBw HB5.out.size
          have HB6 := Lib.hid (show Below w.heap.size w w6 from (HB.out.trans (HB5.out.mono hBw)).trans (HO6.out.below (fun k _ hk => (HP5.out.st.lt (HP5.out.st.own k (.inr (.inr hk)))).1) hBr))
          have HF6 := Lib.hid (HF5.out.out (HO6.out.more (S' := own) fun k _ hk => HP5.out.st.own k (.inr (.inr hk))))
          have HX6 := Lib.hid ((HX1.out.past HB5.out).out HO6.out (fun e => HP5.out.g.2 (.inr (.inr e))))
          clear k1 HOP
          go_upto_region 19 with (go_at_call 16; refine HAL.out.mono ?_; rintro e w7 ⟨Ay, ny, cy, l, rfl, hil, hll, -, hry, hb7⟩; have hev : allF ⟨S', X.m, noC, false⟩ F l = Y.hv := HYY.out.all hil; have HRY := Lib.hid (show w7.ownsRow w6.heap.size 75 2 (.slice Ay ny cy) ny (fcl Y.hv) by rw [← hev]; exact hry); have HYL := Lib.hid (show Y.hv.length = ny by rw [← hev]; unfold allF; rw [List.length_map]; exact hll); have HB7 := Lib.hid hb7; clear hev hil hll hry hb7)
          have k5 := (HX6.out.past HB7.out).cell (i := 5) rfl
          have HSM := Lib.hid (rsame_any Ay ny cy Y.hv A2 n2 c2 Y.hv w7 HYL.out (by have := HJ.out.hv; have := HYL.out; omega) (Cs.of_own HRY.out) HF6.out.len (HF6.out.out (.of_below HB7.out)).at_.now)
          rw [decide_eq_true (rfl : Y.hv = Y.hv)] at HSM
          have HB7' := Lib.hid (HB6.out.trans (HB7.out.mono HB6.out.size))
          clear HAL
          go_wp2_with (first
            | (go_at_call 18; refine HSM.out.mono ?_; rintro e w8 ⟨rfl, hb8⟩; have HB8 := Lib.hid (HB7'.out.trans (hb8.mono HB7'.out.size)); clear hb8)
            | (go_at_call 10; refine (awake_any _).mono ?_; rintro e w9 ⟨rfl, hb⟩; have HB9 := Lib.hid (HB8.out.trans (hb.mono HB8.out.size)); clear hb))
          go_ret
          exact ⟨rfl, HB9.out⟩
open Go.ChangeShapes Go.WideShapes Go.ChangeAt Go.Joins
set_option maxRecDepth 100000 in
theorem storePlays_lifted (os : Os) (started : os.Started) (H : Type) (enc : TypeId × Value → H) :
    ReturnsInHanded {} Tryz.checked os 3 .any (Rows.storePlaysSpec.pre6 enc Tryz.prog Tryz.f3 Rows.storePlaysRow.domain false) (Rows.storePlaysSpec.post enc Tryz.prog Tryz.f3 false true false false) := by
  refine returnsInHanded_of_change (C := Tryz.checked) own started (by kernel_rfl) Tryz.func3
    (ChangeSpec.witness6 (enc := enc) (C := Tryz.checked) false ⟨#[], #[.int .i64 0, .slice none 0 0], []⟩ 8 (by kernel_rfl) (by kernel_rfl) (by kernel_rfl) (by kernel_rfl)) ?_
  intro W base args ds gs before hval0 hW hcnd _
  have hval : ∀ (j : Nat) t v, Tryz.f3.params[j]? = some t → args[j]? = some v → Value.okWide Tryz.prog W .any base t v := hval0
  have hW' := hW
  obtain ⟨p, q, hA0, hV, rfl, hfz, hnd⟩ := hW
  have hA : DataW.TrodAll enc Tryz.prog W 0 (fun _ => true) true Tryz.f3.params.toList args.toList ds p := hA0
  rw [Tryz.params3] at hA hval
  obtain ⟨v0, v1, d0, d1, p0, p1, rfl, rfl, rfl, h0, h1⟩ := trodAll_two hA
  obtain ⟨count, rfl, -, -, wz⟩ := open_int Tryz.underlying3 (hval 0 3 v0 rfl rfl) h0
  obtain ⟨A, n, c, acts, rfl, hl, hnc, hc63, ha⟩ := open_sacts (hval 1 22 v1 rfl rfl) h1
  have hwalk : Calls Tryz.prog 3 #[.int .i64 count, .slice A n c] W fun e w' => e = .returned (.bool true) ∧ Below W.heap.size W w' := splays_walk count A n c acts W hl ⟨hnc, hc63⟩ ha
  refine hwalk.mono fun e W' ⟨he, hb⟩ => ?_
  subst he
  exact ⟨_, rfl, Lw.post_true laidOut (by kernel_rfl) rfl rfl rfl rfl (by kernel_rfl) Tryz.underlying4 hW' hb⟩

/-- StorePlays: any row of acts is answered, and leaves all files, and the manifest, as the document says; opened anew, what was committed is there. -/
theorem storePlays_holds : Rows.StorePlaysSaid :=
  OpenClaim.holds_of_wide 3 Tryz.f3 rfl rfl rfl rfl rfl rfl rfl ⟨rfl, rfl, rfl, rfl, rfl⟩ rfl rfl rfl rfl rfl (by kernel_rfl) Tryz.func3 (by kernel_rfl)
    (of_decide_eq_true (by kernel_rfl)) (by unfold Func.isWrapper; rw [if_neg (of_decide_eq_false (by kernel_rfl))]; exact ⟨rfl, rfl⟩)
    (fun os started H enc _ => storePlays_lifted os started H enc)
#print axioms storePlays_holds
end Go.Proofs.YtiocpefgccndbaaGreat
