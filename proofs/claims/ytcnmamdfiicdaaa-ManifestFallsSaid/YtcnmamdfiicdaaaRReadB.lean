/- The manifest that counts on a disk, as the document reads it: of a great disk that is on. -/
import Derived.Test.YtcnmamdfiicdaaaRReadA
namespace Go.Proofs.Ytcnmamdfiicdaaa
open Go.RowKit Me Mf Rw Ds
set_option maxRecDepth 100000 in
set_option maxHeartbeats 4000000 in
theorem rread_big {own : Nat → Prop} {w : World} {M : RefM} {Am Aw : Option Addr} {nm cm nw cw : Nat} {T : Nat → Option ManD} {Z : Nat → Bool} (h : RefAt w own M Am cm Aw cw) (hm : M.made.length = nm) (hw : M.wait.length = nw) (hnm : nm ≤ 4611686018427387904) (hnw : nw ≤ 4611686018427387904) (hb : ∀ i, (readR M i).length ≤ 128) (hs : 32 < M.count) (hoff : M.off = false)
    (hT : ∀ k, k < 2 → Says (slotR M k 16) (T k)) (hZ : ∀ k, k < 2 → Z k = zeros (slotR M k 16)) :
    Calls Try.prog 22 #[.agg #[.int .i64 (M.count : Int), .bool M.off, .int .i64 M.fuse, .slice Am nm cm, .slice Aw nw cw]] w (RdPost w (ansOf (curOf T 2) (blkOf Z 2))) := by
  obtain ⟨H, hH⟩ : ∃ H, H = w.heap.size := ⟨_, rfl⟩
  have HSL := Lib.hid (fun (n : Nat) (hn : n ≤ 1) (W : World) (hb : Below w.heap.size w W) => rslot_any (h.past hb) hm hw hnm hnw ‹_› n hn)
  have HT := Lib.hid hT
  have HZ := Lib.hid hZ
  obtain ⟨P, hP⟩ : ∃ P, P = ansOf (curOf T 2) (blkOf Z 2) := ⟨_, rfl⟩
  rw [← hP]
  have HP := Lib.hid hP
  obtain ⟨q, hq⟩ : ∃ q, q = M.count := ⟨_, rfl⟩
  rw [← hq] at HSL hs ⊢
  rw [hoff] at HSL ⊢
  generalize M.fuse = fu at HSL ⊢
  obtain ⟨w1, hw1⟩ : ∃ w1, w1 = (w.alloc (.cells #[.int .i64 (q : Int), .bool false, .int .i64 fu, .slice Am nm cm, .slice Aw nw cw] 51)) := ⟨_, rfl⟩
  obtain ⟨wz, hwz⟩ : ∃ wz, wz = (w1.alloc (.cells #[.int .u64 0, .int .u32 0, .slice none 0 0] 28)).alloc (.cells #[.int .u64 0, .int .u32 0, .slice none 0 0] 28) := ⟨_, rfl⟩
  have HWZ := Lib.hid (show wz = _ from hw1 ▸ hwz)
  have hb1 : Below w.heap.size w w1 := by rw [hw1]; exact (Below.refl _ _).alloc (Nat.le_refl _) _
  have hbz : Below w1.heap.size w1 wz := by rw [hwz]; exact ((Below.refl _ _).alloc (Nat.le_refl _) _).alloc (by simp) _
  have hs1 : w1.heap.size = H + 1 := by rw [hw1, hH]; simp
  have HB0 := Lib.hid (hb1.trans (hbz.mono hb1.size))
  have DB0 := Lib.hid (show Blk wz H [.int .i64 (q : Int), .bool false, .int .i64 fu, .slice Am nm cm, .slice Aw nw cw] by
    have : Blk w1 w.heap.size [.int .i64 (q : Int), .bool false, .int .i64 fu, .slice Am nm cm, .slice Aw nw cw] := by rw [hw1]; exact Blk.new w [.int .i64 (q : Int), .bool false, .int .i64 fu, .slice Am nm cm, .slice Aw nw cw] _
    rw [hH]
    exact this.past hbz)
  have RS0 := Lib.hid (show Blk wz (H + 1) [.int .u64 0, .int .u32 0, .slice none 0 0] by rw [hwz]; exact (Blk.new' w1 [.int .u64 0, .int .u32 0, .slice none 0 0] _ hs1).alloc _)
  have CU0 := Lib.hid (show Blk wz (H + 2) [.int .u64 ((noMan.version : Nat) : Int), .int .u32 ((noMan.next : Nat) : Int), .slice none 0 0] by rw [hwz]; exact Blk.new' _ [.int .u64 0, .int .u32 0, .slice none 0 0] _ (by simp [hs1]))
  have HHW := Lib.hid hH
  have hwH : w.heap.size ≤ H := by omega
  have q0 := DB0.out.cell (i := 0) rfl
  have q1 := DB0.out.cell (i := 1) rfl
  clear h hT hZ hP hw1 hwz hb1 hbz hH hs1 hm hw hb hq hoff hnm hnw
  go_enter Try.func22, Try.ntmps22
  go_upto_region 2 with fail
  rw [← HWZ.out]
  rw [← HHW.out]
  clear HWZ
  go_wp2_with fail
  clear q0 q1
  go_loopw [5, 6, 7] (fun f z i wr => ∃ (k : Nat) (fo zz : Bool) (m : ManD) (A : Option Addr) (n c : Nat), k ≤ 2 ∧ i = .int .i64 (k : Int) ∧ f = .bool fo ∧ z = .bool zz ∧ Hid (RSt T Z k fo zz m) ∧ Hid (Blk wr (H + 2) [.int .u64 (m.version : Int), .int .u32 (m.next : Int), .slice A n c]) ∧ Hid (ManAt wr wr.heap.size A n c m) ∧ Hid (Blk wr (H + 1) [.int .u64 0, .int .u32 0, .slice none 0 0]) ∧ Hid (Blk wr H [.int .i64 (q : Int), .bool false, .int .i64 fu, .slice Am nm cm, .slice Aw nw cw]) ∧ Hid (Below w.heap.size w wr)) (fun _ _ i _ => 2 - (intOf i).toNat)
  case atStart => exact ⟨0, false, false, noMan, none, 0, 0, by omega, rfl, rfl, rfl, Lib.hid (RSt.zero T Z), CU0, Lib.hid (ManAt.none _ _), RS0, DB0, HB0⟩
  case round =>
    clear CU0 RS0 DB0 HB0
    obtain ⟨k, fo, zz, m, A, n, c, hk, rfl, rfl, rfl, HST, CU, HM, RS, DB, HB⟩ := hrel
    by_cases hlt : k < 2
    · obtain ⟨b, hb⟩ : ∃ b, b = slotR M k 16 := ⟨_, rfl⟩
      have HBB := Lib.hid hb
      have HTK := Lib.hid (show Says b (T k) by rw [hb]; exact HT.out k hlt)
      have HZK := Lib.hid (show Z k = zeros b by rw [hb]; exact HZ.out k hlt)
      obtain ⟨q0, q1, q2, q3, q4⟩ := DB.out.five
      clear hb
      go_wp2_with fail
      refine (HSL.out k (by omega) _ HB.out).mono ?_
      rintro e w1 ⟨hb1, A1, t1, c1, rfl, hl1, hc1, hcc1, ht1, hr1⟩
      rw [← HBB.out] at hl1 hr1
      have HB1 := Lib.hid (HB.out.trans (hb1.mono HB.out.size))
      have RS1 := Lib.hid (RS.out.past hb1)
      have DB1 := Lib.hid (DB.out.past hb1)
      have CU1 := Lib.hid (CU.out.past hb1)
      have HM1 := Lib.hid (HM.out.past hb1)
      have HL1 := Lib.hid hl1
      have HR1 := Lib.hid hr1
      clear hb1 hl1 hr1 q0 q1 q2 q3 q4
      go_wp2_with fail
      go_loop [9, 30] (fun zv iv => ∃ j : Nat, j ≤ t1 ∧ iv = .int .i64 j ∧ ∃ z : Bool, zv = .bool z ∧ Hid ((z && zeros (b.drop j)) = zeros b)) (fun _ iv => t1 - (intOf iv).toNat)
      case atStart => exact ⟨0, Nat.zero_le _, rfl, true, rfl, Lib.hid (by simp)⟩
      case round =>
        obtain ⟨j, hj, rfl, z, rfl, HZJ⟩ := hrel
        by_cases hjt : j < t1
        · obtain ⟨a, u, rfl, -, hu, c0⟩ := HR1.out.at (k := j) (by rw [HL1.out]; exact hjt)
          have HU := Lib.hid hu
          cases z with
          | false =>
            go_wp2
            go_round
            case rel => exact ⟨j + 1, by omega, by go_num, false, rfl, Lib.hid (by rw [← HZJ.out]; rfl)⟩
            case measure => simp [intOf]; omega
          | true =>
            by_cases hu0 : u = 0
            · have d1 : ((u.toNat : Int) == 0) = true := by rw [hu0]; rfl
              have HZN := Lib.hid (show (true && zeros (b.drop (j + 1))) = zeros b by rw [← HZJ.out, zeros_drop HU.out, hu0]; rfl)
              clear hu hu0
              go_wp2
              go_round
              case rel => exact ⟨j + 1, by omega, by go_num, true, rfl, HZN⟩
              case measure => simp [intOf]; omega
            · have d1 : ((u.toNat : Int) == 0) = false := by
                rw [beq_eq_false_iff_ne]
                intro e
                exact hu0 (UInt8.toNat.inj (show u.toNat = 0 by omega))
              have HZN := Lib.hid (show (false && zeros (b.drop (j + 1))) = zeros b by rw [← HZJ.out, zeros_drop HU.out, beq_eq_false_iff_ne.2 hu0]; rfl)
              clear hu hu0
              go_wp2
              go_round
              case rel => exact ⟨j + 1, by omega, by go_num, false, rfl, HZN⟩
              case measure => simp [intOf]; omega
        · have HZE := Lib.hid (show z = Z k by
            have := HZJ.out
            rw [List.drop_of_length_le (by rw [HL1.out]; omega)] at this
            rw [HZK.out, ← this]
            simp [zeros])
          clear HZJ
          cases zz with
          | true =>
            go_wp2_with fail
            refine (rget_any A1 t1 c1 b w1 HL1.out hc1 hcc1 HR1.out).mono ?_
            rintro e w2 ⟨hb2, h2⟩
            have HB2 := Lib.hid (HB1.out.trans (hb2.mono HB1.out.size))
            have RS2 := Lib.hid (RS1.out.past hb2)
            have DB2 := Lib.hid (DB1.out.past hb2)
            have CU2 := Lib.hid (CU1.out.past hb2)
            have HM2 := Lib.hid (HM1.out.past hb2)
            clear hb2 RS1 CU1 HM1 HB1 DB1
            rcases h2 with ⟨m1, A2, n2, c2, hg, rfl, hm2, -⟩ | ⟨hno, rfl⟩
            · have HTT := Lib.hid (HTK.out.get hg)
              obtain ⟨w3, hw3⟩ : ∃ w3, w3 = w2.alloc (.cells #[.int .u64 (m1.version : Int), .int .u32 (m1.next : Int), .slice A2 n2 c2] 28) := ⟨_, rfl⟩
              have HW3 := Lib.hid hw3
              have hb3 : Below w2.heap.size w2 w3 := by rw [hw3]; exact (Below.refl _ _).alloc (Nat.le_refl _) _
              have BX3 := Lib.hid (show Blk w3 w2.heap.size [.int .u64 (m1.version : Int), .int .u32 (m1.next : Int), .slice A2 n2 c2] by rw [hw3]; exact Blk.new w2 [.int .u64 (m1.version : Int), .int .u32 (m1.next : Int), .slice A2 n2 c2] _)
              have HB3 := Lib.hid (HB2.out.trans (hb3.mono HB2.out.size))
              have RS3 := Lib.hid (RS2.out.past hb3)
              have DB3 := Lib.hid (DB2.out.past hb3)
              have CU3 := Lib.hid (CU2.out.past hb3)
              have HM3 := Lib.hid (HM2.out.past hb3)
              have HN3 := Lib.hid (hm2.past hb3)
              have i0 := BX3.out.cell (i := 0) rfl
              have i1 := BX3.out.cell (i := 1) rfl
              have i2 := BX3.out.cell (i := 2) rfl
              have j0 := CU3.out.cell (i := 0) rfl
              have hH2 := CU2.out.lt
              clear hg hm2 hw3 hb3 RS2 CU2 HM2 HB2 DB2
              go_upto_region 20 with fail
              rw [← HW3.out]
              clear HW3
              cases fo with
              | false =>
                go_wp2_with (first
                  | (refine wpList_store_blk rfl 28 _ _ rfl (H + 2) _ #[.int .u64 (m1.version : Int), .int .u32 (m1.next : Int), .slice A2 n2 c2] rfl rfl CU3.out rfl man_size (man_one _ _ _ _ _) ?_
                     intro w4 hb4 ho4
                     have CU4 := Lib.hid (show Blk w4 (H + 2) [.int .u64 (m1.version : Int), .int .u32 (m1.next : Int), .slice A2 n2 c2] from hb4)
                     have HO4 := Lib.hid ho4
                     have HB4 := Lib.hid (HB3.out.trans (HO4.out.below (B := w.heap.size) (fun k _ hk => by omega) HB3.out.size))
                     have RS4 := Lib.hid (RS3.out.out HO4.out (by omega))
                     have DB4 := Lib.hid (DB3.out.out HO4.out (by omega))
                     have HN4 := Lib.hid (HN3.out.box CU3.out HO4.out)
                     clear hb4 ho4)
                  | fail)
                go_roundw
                case rel => exact ⟨k + 1, true, true, m1, A2, n2, c2, by omega, by go_num, rfl, rfl, Lib.hid (HST.out.first HTT.out rfl), CU4, HN4, RS4, DB4, HB4⟩
                case measure => simp [intOf]; omega
              | true =>
                by_cases hv : m.version < m1.version
                · have hv' : (m.version : Int) < (m1.version : Int) := by omega
                  go_wp2_with (first
                    | (refine wpList_store_blk rfl 28 _ _ rfl (H + 2) _ #[.int .u64 (m1.version : Int), .int .u32 (m1.next : Int), .slice A2 n2 c2] rfl rfl CU3.out rfl man_size (man_one _ _ _ _ _) ?_
                       intro w4 hb4 ho4
                       have CU4 := Lib.hid (show Blk w4 (H + 2) [.int .u64 (m1.version : Int), .int .u32 (m1.next : Int), .slice A2 n2 c2] from hb4)
                       have HO4 := Lib.hid ho4
                       have HB4 := Lib.hid (HB3.out.trans (HO4.out.below (B := w.heap.size) (fun k _ hk => by omega) HB3.out.size))
                       have RS4 := Lib.hid (RS3.out.out HO4.out (by omega))
                       have DB4 := Lib.hid (DB3.out.out HO4.out (by omega))
                       have HN4 := Lib.hid (HN3.out.box CU3.out HO4.out)
                       clear hb4 ho4)
                    | fail)
                  go_roundw
                  case rel => exact ⟨k + 1, true, true, m1, A2, n2, c2, by omega, by go_num, rfl, rfl, Lib.hid (HST.out.more HTT.out hv rfl), CU4, HN4, RS4, DB4, HB4⟩
                  case measure => simp [intOf]; omega
                · have hv' : ¬ (m.version : Int) < (m1.version : Int) := by omega
                  go_wp2
                  go_roundw
                  case rel => exact ⟨k + 1, true, true, m, A, n, c, by omega, by go_num, rfl, rfl, Lib.hid (HST.out.less HTT.out hv rfl), CU3, HM3, RS3, DB3, HB3⟩
                  case measure => simp [intOf]; omega
            · have HTT := Lib.hid (HTK.out.no hno)
              obtain ⟨w3, hw3⟩ : ∃ w3, w3 = w2.alloc (.cells #[.int .u64 0, .int .u32 0, .slice none 0 0] 28) := ⟨_, rfl⟩
              have HW3 := Lib.hid hw3
              have hb3 : Below w2.heap.size w2 w3 := by rw [hw3]; exact (Below.refl _ _).alloc (Nat.le_refl _) _
              have HB3 := Lib.hid (HB2.out.trans (hb3.mono HB2.out.size))
              have RS3 := Lib.hid (RS2.out.past hb3)
              have DB3 := Lib.hid (DB2.out.past hb3)
              have CU3 := Lib.hid (CU2.out.past hb3)
              have HM3 := Lib.hid (HM2.out.past hb3)
              clear hno hw3 hb3 RS2 CU2 HM2 HB2 DB2
              go_upto_region 20 with fail
              rw [← HW3.out]
              clear HW3
              go_wp2
              go_roundw
              case rel => exact ⟨k + 1, fo, true, m, A, n, c, by omega, by go_num, rfl, rfl, Lib.hid (HST.out.none HTT.out rfl), CU3, HM3, RS3, DB3, HB3⟩
              case measure => simp [intOf]; omega
          | false =>
            go_wp2_with fail
            refine (rget_any A1 t1 c1 b w1 HL1.out hc1 hcc1 HR1.out).mono ?_
            rintro e w2 ⟨hb2, h2⟩
            have HB2 := Lib.hid (HB1.out.trans (hb2.mono HB1.out.size))
            have RS2 := Lib.hid (RS1.out.past hb2)
            have DB2 := Lib.hid (DB1.out.past hb2)
            have CU2 := Lib.hid (CU1.out.past hb2)
            have HM2 := Lib.hid (HM1.out.past hb2)
            clear hb2 RS1 CU1 HM1 HB1 DB1
            rcases h2 with ⟨m1, A2, n2, c2, hg, rfl, hm2, -⟩ | ⟨hno, rfl⟩
            · have HTT := Lib.hid (HTK.out.get hg)
              obtain ⟨w3, hw3⟩ : ∃ w3, w3 = w2.alloc (.cells #[.int .u64 (m1.version : Int), .int .u32 (m1.next : Int), .slice A2 n2 c2] 28) := ⟨_, rfl⟩
              have HW3 := Lib.hid hw3
              have hb3 : Below w2.heap.size w2 w3 := by rw [hw3]; exact (Below.refl _ _).alloc (Nat.le_refl _) _
              have BX3 := Lib.hid (show Blk w3 w2.heap.size [.int .u64 (m1.version : Int), .int .u32 (m1.next : Int), .slice A2 n2 c2] by rw [hw3]; exact Blk.new w2 [.int .u64 (m1.version : Int), .int .u32 (m1.next : Int), .slice A2 n2 c2] _)
              have HB3 := Lib.hid (HB2.out.trans (hb3.mono HB2.out.size))
              have RS3 := Lib.hid (RS2.out.past hb3)
              have DB3 := Lib.hid (DB2.out.past hb3)
              have CU3 := Lib.hid (CU2.out.past hb3)
              have HM3 := Lib.hid (HM2.out.past hb3)
              have HN3 := Lib.hid (hm2.past hb3)
              have i0 := BX3.out.cell (i := 0) rfl
              have i1 := BX3.out.cell (i := 1) rfl
              have i2 := BX3.out.cell (i := 2) rfl
              have j0 := CU3.out.cell (i := 0) rfl
              have hH2 := CU2.out.lt
              clear hg hm2 hw3 hb3 RS2 CU2 HM2 HB2 DB2
              go_upto_region 20 with fail
              rw [← HW3.out]
              clear HW3
              cases fo with
              | false =>
                go_wp2_with (first
                  | (refine wpList_store_blk rfl 28 _ _ rfl (H + 2) _ #[.int .u64 (m1.version : Int), .int .u32 (m1.next : Int), .slice A2 n2 c2] rfl rfl CU3.out rfl man_size (man_one _ _ _ _ _) ?_
                     intro w4 hb4 ho4
                     have CU4 := Lib.hid (show Blk w4 (H + 2) [.int .u64 (m1.version : Int), .int .u32 (m1.next : Int), .slice A2 n2 c2] from hb4)
                     have HO4 := Lib.hid ho4
                     have HB4 := Lib.hid (HB3.out.trans (HO4.out.below (B := w.heap.size) (fun k _ hk => by omega) HB3.out.size))
                     have RS4 := Lib.hid (RS3.out.out HO4.out (by omega))
                     have DB4 := Lib.hid (DB3.out.out HO4.out (by omega))
                     have HN4 := Lib.hid (HN3.out.box CU3.out HO4.out)
                     clear hb4 ho4)
                  | fail)
                go_roundw
                case rel => exact ⟨k + 1, true, Z k, m1, A2, n2, c2, by omega, by go_num, rfl, by rw [HZE.out], Lib.hid (HST.out.first HTT.out rfl), CU4, HN4, RS4, DB4, HB4⟩
                case measure => simp [intOf]; omega
              | true =>
                by_cases hv : m.version < m1.version
                · have hv' : (m.version : Int) < (m1.version : Int) := by omega
                  go_wp2_with (first
                    | (refine wpList_store_blk rfl 28 _ _ rfl (H + 2) _ #[.int .u64 (m1.version : Int), .int .u32 (m1.next : Int), .slice A2 n2 c2] rfl rfl CU3.out rfl man_size (man_one _ _ _ _ _) ?_
                       intro w4 hb4 ho4
                       have CU4 := Lib.hid (show Blk w4 (H + 2) [.int .u64 (m1.version : Int), .int .u32 (m1.next : Int), .slice A2 n2 c2] from hb4)
                       have HO4 := Lib.hid ho4
                       have HB4 := Lib.hid (HB3.out.trans (HO4.out.below (B := w.heap.size) (fun k _ hk => by omega) HB3.out.size))
                       have RS4 := Lib.hid (RS3.out.out HO4.out (by omega))
                       have DB4 := Lib.hid (DB3.out.out HO4.out (by omega))
                       have HN4 := Lib.hid (HN3.out.box CU3.out HO4.out)
                       clear hb4 ho4)
                    | fail)
                  go_roundw
                  case rel => exact ⟨k + 1, true, Z k, m1, A2, n2, c2, by omega, by go_num, rfl, by rw [HZE.out], Lib.hid (HST.out.more HTT.out hv rfl), CU4, HN4, RS4, DB4, HB4⟩
                  case measure => simp [intOf]; omega
                · have hv' : ¬ (m.version : Int) < (m1.version : Int) := by omega
                  go_wp2
                  go_roundw
                  case rel => exact ⟨k + 1, true, Z k, m, A, n, c, by omega, by go_num, rfl, by rw [HZE.out], Lib.hid (HST.out.less HTT.out hv rfl), CU3, HM3, RS3, DB3, HB3⟩
                  case measure => simp [intOf]; omega
            · have HTT := Lib.hid (HTK.out.no hno)
              obtain ⟨w3, hw3⟩ : ∃ w3, w3 = w2.alloc (.cells #[.int .u64 0, .int .u32 0, .slice none 0 0] 28) := ⟨_, rfl⟩
              have HW3 := Lib.hid hw3
              have hb3 : Below w2.heap.size w2 w3 := by rw [hw3]; exact (Below.refl _ _).alloc (Nat.le_refl _) _
              have HB3 := Lib.hid (HB2.out.trans (hb3.mono HB2.out.size))
              have RS3 := Lib.hid (RS2.out.past hb3)
              have DB3 := Lib.hid (DB2.out.past hb3)
              have CU3 := Lib.hid (CU2.out.past hb3)
              have HM3 := Lib.hid (HM2.out.past hb3)
              clear hno hw3 hb3 RS2 CU2 HM2 HB2 DB2
              go_upto_region 20 with fail
              rw [← HW3.out]
              clear HW3
              go_wp2
              go_roundw
              case rel => exact ⟨k + 1, fo, Z k, m, A, n, c, by omega, by go_num, rfl, by rw [HZE.out], Lib.hid (HST.out.none HTT.out rfl), CU3, HM3, RS3, DB3, HB3⟩
              case measure => simp [intOf]; omega
    · have hk2 : k = 2 := by omega
      subst hk2
      have HAA := Lib.hid (show P = if fo || zz then (m, 0) else (noMan, 5) by rw [HP.out]; exact HST.out.ans)
      have j0 := CU.out.cell (i := 0) rfl
      have j1 := CU.out.cell (i := 1) rfl
      have j2 := CU.out.cell (i := 2) rfl
      clear HST HP
      cases fo <;> cases zz
      case false.false =>
        go_wp2_with (refine wpList_store_blk rfl 28 _ _ rfl (H + 1) _ #[.int .u64 0, .int .u32 0, .slice none 0 0] rfl rfl RS.out rfl man_size (man_one _ _ _ _ _) ?_
                     intro w7 hb7 ho7
                     have HB7 := Lib.hid (show Blk w7 (H + 1) [.int .u64 0, .int .u32 0, .slice none 0 0] from hb7)
                     have HO7 := Lib.hid ho7
                     clear hb7 ho7)
        have r0 := HB7.out.cell (i := 0) rfl
        have r1 := HB7.out.cell (i := 1) rfl
        have r2 := HB7.out.cell (i := 2) rfl
        refine bodyPost_ret (v := .tuple #[mval 0 0 none 0 0, .int .i64 5]) (by simp [results, Try.results22, go_sem, r0, r1, r2, mval]) rfl ?_
        rw [HAA.out]
        exact ⟨HB.out.trans (HO7.out.below (B := w.heap.size) (fun k _ hk => by omega) HB.out.size), none, 0, 0, rfl, ManAt.none _ _⟩
      all_goals
        go_wp2_with (refine wpList_store_blk rfl 28 _ _ rfl (H + 1) _ #[.int .u64 (m.version : Int), .int .u32 (m.next : Int), .slice A n c] rfl rfl RS.out rfl man_size (man_one _ _ _ _ _) ?_
                     intro w7 hb7 ho7
                     have HB7 := Lib.hid (show Blk w7 (H + 1) [.int .u64 (m.version : Int), .int .u32 (m.next : Int), .slice A n c] from hb7)
                     have HO7 := Lib.hid ho7
                     clear hb7 ho7)
        have r0 := HB7.out.cell (i := 0) rfl
        have r1 := HB7.out.cell (i := 1) rfl
        have r2 := HB7.out.cell (i := 2) rfl
        refine bodyPost_ret (v := .tuple #[mval m.version m.next A n c, .int .i64 0]) (by simp [results, Try.results22, go_sem, r0, r1, r2, mval]) rfl ?_
        rw [HAA.out]
        exact ⟨HB.out.trans (HO7.out.below (B := w.heap.size) (fun k _ hk => by omega) HB.out.size), A, n, c, rfl, HM.out.box RS.out HO7.out⟩
end Go.Proofs.Ytcnmamdfiicdaaa
