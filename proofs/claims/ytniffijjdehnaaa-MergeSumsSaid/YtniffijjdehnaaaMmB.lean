/- The program's edges of keys: the numbers of a key. -/
import Derived.Test.YtniffijjdehnaaaMmA
import Derived.Test.YtniffijjdehnaaaMkB
namespace Go.Proofs.Ytniffijjdehnaaa
open Go.RowKit Me Tx Ed Mg

/-- The number of bytes, the highest one first. -/
def vb (l : List UInt8) : Nat := l.foldl (fun a u => a * 256 + u.toNat) 0
theorem vb_snoc (l : List UInt8) (u : UInt8) : vb (l ++ [u]) = vb l * 256 + u.toNat := by unfold vb; rw [List.foldl_append]; rfl
/-- How far a number has come behind k bytes of a key. -/
def celB (b : List UInt8) (k j : Nat) : Nat := vb (((b.take k).drop (4 * j)).take 4)
theorem celB_zero (b : List UInt8) (j : Nat) : celB b 0 j = 0 := by unfold celB; simp [vb]
theorem celB_same {b : List UInt8} {k : Nat} {u : UInt8} (h : b[k]? = some u) {j : Nat} (h1 : 4 * j ≤ k) (h2 : k < 4 * j + 4) : celB b (k + 1) j = celB b k j * 256 + u.toNat := by
  have hk : k < b.length := (List.getElem?_eq_some_iff.1 h).1
  unfold celB
  have hl : (b.take k).length = k := by rw [List.length_take]; omega
  rw [take_snoc h, List.drop_append_of_le_length (by omega), List.take_of_length_le (l := (b.take k).drop (4 * j) ++ [u]) (by rw [List.length_append, List.length_drop, hl]; simp; omega), List.take_of_length_le (l := (b.take k).drop (4 * j)) (by rw [List.length_drop, hl]; omega), vb_snoc]
theorem celB_other {b : List UInt8} {k : Nat} {u : UInt8} (h : b[k]? = some u) {j : Nat} (h1 : k < 4 * j ∨ 4 * j + 4 ≤ k) : celB b (k + 1) j = celB b k j := by
  have hk : k < b.length := (List.getElem?_eq_some_iff.1 h).1
  have hl : (b.take k).length = k := by rw [List.length_take]; omega
  unfold celB
  rw [take_snoc h]
  rcases h1 with h1 | h1
  · rw [List.drop_of_length_le (by simp; omega), List.drop_of_length_le (by omega)]
  · rw [List.drop_append_of_le_length (by omega), List.take_append_of_le_length (by rw [List.length_drop]; omega)]
theorem vb_lt : ∀ (l : List UInt8), vb l < 256 ^ l.length := fun l => by
  have key : ∀ (l : List UInt8) (a m : Nat), a < 256 ^ m → l.foldl (fun a u => a * 256 + u.toNat) a < 256 ^ (m + l.length) := fun l => by
    induction l with
    | nil => exact fun a m h => h
    | cons u l ih =>
      intro a m h
      have hu := u.toNat_lt
      rw [List.foldl_cons, List.length_cons, show m + (l.length + 1) = (m + 1) + l.length by omega]
      refine ih _ (m + 1) ?_
      rw [Nat.pow_succ]
      omega
  have := key l 0 0 (by decide)
  rwa [Nat.zero_add] at this
theorem celB_lt (b : List UInt8) (k j : Nat) {m : Nat} (h : k ≤ 4 * j + m) : celB b k j < 256 ^ m := by
  unfold celB
  have h1 := vb_lt (((b.take k).drop (4 * j)).take 4)
  refine Nat.lt_of_lt_of_le h1 (Nat.pow_le_pow_right (by decide) ?_)
  rw [List.length_take, List.length_drop, List.length_take]
  omega
theorem celB_lt4 (b : List UInt8) (k j : Nat) : celB b k j < 4294967296 := by
  unfold celB
  have h1 := vb_lt (((b.take k).drop (4 * j)).take 4)
  have h2 : (((b.take k).drop (4 * j)).take 4).length ≤ 4 := by rw [List.length_take]; omega
  have h3 : 256 ^ (((b.take k).drop (4 * j)).take 4).length ≤ 256 ^ 4 := Nat.pow_le_pow_right (by decide) h2
  have h4 : (256 : Nat) ^ 4 = 4294967296 := by decide
  omega
theorem vb_four {l : List UInt8} (h : l.length = 4) : vb l = nb4 l := by
  match l, h with
  | [a, b, c, d], _ =>
    show ((((0 * 256 + a.toNat) * 256 + b.toNat) * 256 + c.toNat) * 256 + d.toNat) = 16777216 * a.toNat + 65536 * b.toNat + 256 * c.toNat + d.toNat
    omega
theorem celB_all {b : List UInt8} (h : b.length = 12) : edB b = ⟨celB b 12 0, celB b 12 1, celB b 12 2⟩ := by
  unfold celB edB
  rw [List.take_of_length_le (Nat.le_of_eq h), vb_four (by rw [List.length_take, List.length_drop]; omega), vb_four (by rw [List.length_take, List.length_drop]; omega), vb_four (by rw [List.length_take, List.length_drop]; omega), List.take_of_length_le (i := 4) (l := b.drop (4 * 2)) (by rw [List.length_drop]; omega)]
  rfl
/-- A key's numbers, as a value. -/
def numV (x : EdD) : Value := .agg #[.int .u32 (x.src : Int), .int .u32 (x.dst : Int), .int .u32 (x.wgt : Int)]
theorem num_size : (Try.prog.info? 63).map (·.size) = some 3 := by kernel_rfl
theorem or_shift (x y : Nat) (hx : x < 16777216) (hy : y < 256) : bits .or .u32 ((x : Int) * 256 % 4294967296) (y : Int) = ((x * 256 + y : Nat) : Int) := by
  have e : (x : Int) * 256 % 4294967296 = ((2 ^ 8 * x : Nat) : Int) := by omega
  rw [e, u32_or_nat _ _ (by omega) (by omega), ← Nat.two_pow_add_eq_or_of_lt (by omega) x]
  omega
set_option maxRecDepth 100000 in
set_option maxHeartbeats 2000000 in
theorem mdec_any (A : Option Addr) (n c : Nat) (b : List UInt8) (w : World) (hl : b.length = n) (h : Rd w w.heap.size A b) :
    Calls Try.prog 23 #[.slice A n c] w fun e w' => (if n = 12 then e = .returned (.tuple #[numV (edB b), .int .i64 0]) else e = .returned (.tuple #[numV ⟨0, 0, 0⟩, .int .i64 3])) ∧ Below w.heap.size w w' := by
  obtain ⟨H, hH⟩ : ∃ H, H = w.heap.size := ⟨_, rfl⟩
  obtain ⟨w0, hw0⟩ : ∃ w0, w0 = (w.alloc (.cells #[.int .u32 0, .int .u32 0, .int .u32 0] 63)).alloc (.cells #[.int .u32 0, .int .u32 0, .int .u32 0] 63) := ⟨_, rfl⟩
  have hb0 : Below w.heap.size w w0 := by rw [hw0]; exact ((Below.refl _ _).alloc (Nat.le_refl _) _).alloc (by simp) _
  have BZ := Lib.hid (show Blk w0 H [.int .u32 0, .int .u32 0, .int .u32 0] by rw [hw0, hH]; exact (Blk.new w [.int .u32 0, .int .u32 0, .int .u32 0] _).alloc _)
  have BN := Lib.hid (show Blk w0 (H + 1) [.int .u32 0, .int .u32 0, .int .u32 0] by rw [hw0, hH]; exact Blk.new' (w.alloc _) [.int .u32 0, .int .u32 0, .int .u32 0] _ (by simp))
  have HW0 := Lib.hid hw0
  have HHE := Lib.hid hH
  have HB0 := Lib.hid hb0
  have HL := Lib.hid hl
  have HR := Lib.hid h
  have HFR := Lib.hid (show ∀ W : World, Out (fun k => k = H ∨ k = H + 1) w0 W → Below w.heap.size w W from fun W ho => HB0.out.trans (ho.below (fun k _ e => by have := HHE.out; omega) HB0.out.size))
  clear hw0 hH hb0 hl h
  by_cases h12 : n = 12
  · subst h12
    go_enter Try.func23, Try.ntmps23
    go_upto_region 2 with fail
    rw [← HW0.out, ← HHE.out]
    go_wp2
    go_loopw [13] (fun iv wr => ∃ (k : Nat), k ≤ 12 ∧ iv = .int .i64 (k : Int) ∧ Hid (Blk wr (H + 1) [.int .u32 (celB b k 0 : Int), .int .u32 (celB b k 1 : Int), .int .u32 (celB b k 2 : Int)]) ∧ Hid (Blk wr H [.int .u32 0, .int .u32 0, .int .u32 0]) ∧ Hid (Out (fun k => k = H ∨ k = H + 1) w0 wr)) (fun iv _ => 12 - (intOf iv).toNat)
    case atStart => exact ⟨0, by omega, rfl, by rw [celB_zero, celB_zero, celB_zero]; exact BN, BZ, Lib.hid (Out.refl _ _)⟩
    case round =>
      obtain ⟨k, hk, rfl, HBK, HZB, HO⟩ := hrel
      by_cases hlt : k < 12
      · obtain ⟨a, u, rfl, hab, hu, hc⟩ := HR.out.at (k := k) (by rw [HL.out]; exact hlt)
        obtain ⟨y, hy⟩ : ∃ y, y = u.toNat := ⟨_, rfl⟩
        have hy8 : y < 256 := by rw [hy]; exact u.toNat_lt
        rw [← hy] at hc
        have hcell : wr.cell? (a.add k) = some (.int .u8 (y : Int)) := ((HFR.out _ HO.out).cell (by rw [block_add]; exact hab)).trans hc
        have HY := Lib.hid hy
        have HU := Lib.hid hu
        clear hc hab hy hu
        obtain ⟨z0, hz0⟩ : ∃ z, z = celB b k 0 := ⟨_, rfl⟩
        obtain ⟨z1, hz1⟩ : ∃ z, z = celB b k 1 := ⟨_, rfl⟩
        obtain ⟨z2, hz2⟩ : ∃ z, z = celB b k 2 := ⟨_, rfl⟩
        rw [← hz0, ← hz1, ← hz2] at HBK
        have b0 := HBK.out.cell (i := 0) rfl
        have b1 := HBK.out.cell (i := 1) rfl
        have b2 := HBK.out.cell (i := 2) rfl
        have f0 := HBK.out.frozen 0
        have f1 := HBK.out.frozen 1
        have f2 := HBK.out.frozen 2
        have HZ := Lib.hid (And.intro hz0 (And.intro hz1 hz2))
        have HY8 := Lib.hid hy8
        obtain ⟨q, hq⟩ : ∃ q, q = k / 4 := ⟨_, rfl⟩
        have hq3 : q = 0 ∨ q = 1 ∨ q = 2 := by omega
        have hlo : 4 * q ≤ k ∧ k < 4 * q + 4 := by omega
        have ht : (k : Int).tdiv 4 = (q : Int) := by rw [Int.tdiv_eq_ediv_of_nonneg (by omega)]; omega
        have hw8 : IntKind.u32.wrap (y : Int) = (y : Int) := by rw [IntKind.wrap_u32]; omega
        have HLO := Lib.hid hlo
        clear hz0 hz1 hz2 hq hy8 hlo
        rcases hq3 with rfl | rfl | rfl
        · obtain ⟨x, hx⟩ : ∃ x, x = z0 * 256 + y := ⟨_, rfl⟩
          have he : bits .or .u32 ((z0 : Int) * 256 % 4294967296) (y : Int) = (x : Int) := by
            rw [hx]
            refine or_shift z0 y ?_ HY8.out
            rw [HZ.out.1]
            exact celB_lt b k 0 (m := 3) (by have := HLO.out; omega)
          have HX := Lib.hid hx
          have HN := Lib.hid (show Blk (wr.setCell ⟨H + 1, 0, none⟩ (.int .u32 (x : Int))) (H + 1) [.int .u32 (celB b (k + 1) 0 : Int), .int .u32 (celB b (k + 1) 1 : Int), .int .u32 (celB b (k + 1) 2 : Int)] from by
            rw [celB_same HU.out (j := 0) (by have := HLO.out; omega) (by have := HLO.out; omega), ← HZ.out.1, ← HY.out, ← HX.out, celB_other HU.out (j := 1) (by have := HLO.out; omega), ← HZ.out.2.1, celB_other HU.out (j := 2) (by have := HLO.out; omega), ← HZ.out.2.2]
            exact HBK.out.set 0 _)
          have HZ2 := Lib.hid (HZB.out.other (p := ⟨H + 1, 0, none⟩) (show H + 1 ≠ H by omega) (.int .u32 (x : Int)))
          have HO2 := Lib.hid (HO.out.setCell (p := ⟨H + 1, 0, none⟩) (.inl (.inr rfl)) (.int .u32 (x : Int)))
          clear hx
          go_wp2
          exact ⟨⟨k + 1, by omega, by go_num, HN, HZ2, HO2⟩, by simp [intOf]; omega⟩
        · obtain ⟨x, hx⟩ : ∃ x, x = z1 * 256 + y := ⟨_, rfl⟩
          have he : bits .or .u32 ((z1 : Int) * 256 % 4294967296) (y : Int) = (x : Int) := by
            rw [hx]
            refine or_shift z1 y ?_ HY8.out
            rw [HZ.out.2.1]
            exact celB_lt b k 1 (m := 3) (by have := HLO.out; omega)
          have HX := Lib.hid hx
          have HN := Lib.hid (show Blk (wr.setCell ⟨H + 1, 1, none⟩ (.int .u32 (x : Int))) (H + 1) [.int .u32 (celB b (k + 1) 0 : Int), .int .u32 (celB b (k + 1) 1 : Int), .int .u32 (celB b (k + 1) 2 : Int)] from by
            rw [celB_other HU.out (j := 0) (by have := HLO.out; omega), ← HZ.out.1, celB_same HU.out (j := 1) (by have := HLO.out; omega) (by have := HLO.out; omega), ← HZ.out.2.1, ← HY.out, ← HX.out, celB_other HU.out (j := 2) (by have := HLO.out; omega), ← HZ.out.2.2]
            exact HBK.out.set 1 _)
          have HZ2 := Lib.hid (HZB.out.other (p := ⟨H + 1, 1, none⟩) (show H + 1 ≠ H by omega) (.int .u32 (x : Int)))
          have HO2 := Lib.hid (HO.out.setCell (p := ⟨H + 1, 1, none⟩) (.inl (.inr rfl)) (.int .u32 (x : Int)))
          clear hx
          go_wp2
          exact ⟨⟨k + 1, by omega, by go_num, HN, HZ2, HO2⟩, by simp [intOf]; omega⟩
        · obtain ⟨x, hx⟩ : ∃ x, x = z2 * 256 + y := ⟨_, rfl⟩
          have he : bits .or .u32 ((z2 : Int) * 256 % 4294967296) (y : Int) = (x : Int) := by
            rw [hx]
            refine or_shift z2 y ?_ HY8.out
            rw [HZ.out.2.2]
            exact celB_lt b k 2 (m := 3) (by have := HLO.out; omega)
          have HX := Lib.hid hx
          have HN := Lib.hid (show Blk (wr.setCell ⟨H + 1, 2, none⟩ (.int .u32 (x : Int))) (H + 1) [.int .u32 (celB b (k + 1) 0 : Int), .int .u32 (celB b (k + 1) 1 : Int), .int .u32 (celB b (k + 1) 2 : Int)] from by
            rw [celB_other HU.out (j := 0) (by have := HLO.out; omega), ← HZ.out.1, celB_other HU.out (j := 1) (by have := HLO.out; omega), ← HZ.out.2.1, celB_same HU.out (j := 2) (by have := HLO.out; omega) (by have := HLO.out; omega), ← HZ.out.2.2, ← HY.out, ← HX.out]
            exact HBK.out.set 2 _)
          have HZ2 := Lib.hid (HZB.out.other (p := ⟨H + 1, 2, none⟩) (show H + 1 ≠ H by omega) (.int .u32 (x : Int)))
          have HO2 := Lib.hid (HO.out.setCell (p := ⟨H + 1, 2, none⟩) (.inl (.inr rfl)) (.int .u32 (x : Int)))
          clear hx
          go_wp2
          exact ⟨⟨k + 1, by omega, by go_num, HN, HZ2, HO2⟩, by simp [intOf]; omega⟩
      · obtain rfl : k = 12 := by omega
        have b0 := HBK.out.cell (i := 0) rfl
        have b1 := HBK.out.cell (i := 1) rfl
        have b2 := HBK.out.cell (i := 2) rfl
        have HE := Lib.hid (celB_all HL.out)
        go_wp2_with (refine wpList_store_blk rfl 63 _ _ rfl H _ #[.int .u32 (celB b 12 0 : Int), .int .u32 (celB b 12 1 : Int), .int .u32 (celB b 12 2 : Int)] rfl rfl HZB.out rfl num_size (ed_one _ _ _) ?_
                     intro w1 hb1 ho1
                     have HB1 := Lib.hid hb1
                     have HO1 := Lib.hid ho1
                     clear hb1 ho1)
        have r0 := HB1.out.cell (i := 0) rfl
        have r1 := HB1.out.cell (i := 1) rfl
        have r2 := HB1.out.cell (i := 2) rfl
        refine bodyPost_ret (v := .tuple #[numV ⟨celB b 12 0, celB b 12 1, celB b 12 2⟩, .int .i64 0]) (by simp [results, Try.results23, go_sem, r0, r1, r2, numV]) rfl ?_
        exact ⟨by simp [HE.out], HFR.out _ (HO.out.trans (HO1.out.more fun k _ e => .inl e))⟩
  · have hne : ((n : Int) != 12) = true := by simp; omega
    have y0 := BN.out.cell (i := 0) rfl
    have y1 := BN.out.cell (i := 1) rfl
    have y2 := BN.out.cell (i := 2) rfl
    go_enter Try.func23, Try.ntmps23
    go_upto_region 2 with fail
    rw [← HW0.out, ← HHE.out]
    go_wp2_with (refine wpList_store_blk rfl 63 _ _ rfl H _ #[.int .u32 0, .int .u32 0, .int .u32 0] rfl rfl BZ.out rfl num_size (ed_one 0 0 0) ?_
                 intro w1 hb1 ho1
                 have HB1 := Lib.hid hb1
                 have HO1 := Lib.hid ho1
                 clear hb1 ho1)
    have r0 := HB1.out.cell (i := 0) rfl
    have r1 := HB1.out.cell (i := 1) rfl
    have r2 := HB1.out.cell (i := 2) rfl
    refine bodyPost_ret (v := .tuple #[numV ⟨0, 0, 0⟩, .int .i64 3]) (by simp [results, Try.results23, go_sem, r0, r1, r2, numV]) rfl ?_
    exact ⟨by simp [h12], HFR.out _ (HO1.out.more fun k _ e => .inl e)⟩
/-- A key's numbers, or the error. -/
def OfPost (w : World) (n : Nat) (b : List UInt8) (V : EdD → Value) (e : Ending) (w' : World) : Prop :=
  ∃ (x : EdD) (z : Int), e = .returned (.tuple #[V x, .int .i64 z]) ∧ ((n = 12 ∧ x = edB b ∧ z = 0) ∨ (n ≠ 12 ∧ x = ⟨0, 0, 0⟩ ∧ z = 3)) ∧ Below w.heap.size w w'
theorem mdec_post (A : Option Addr) (n c : Nat) (b : List UInt8) (w : World) (hl : b.length = n) (h : Rd w w.heap.size A b) :
    Calls Try.prog 23 #[.slice A n c] w (OfPost w n b numV) := by
  refine (mdec_any A n c b w hl h).mono ?_
  rintro e w' ⟨he, hb⟩
  by_cases h12 : n = 12
  · rw [if_pos h12] at he
    exact ⟨_, _, he, .inl ⟨h12, rfl, rfl⟩, hb⟩
  · rw [if_neg h12] at he
    exact ⟨_, _, he, .inr ⟨h12, rfl, rfl⟩, hb⟩
set_option maxRecDepth 100000 in
set_option maxHeartbeats 2000000 in
theorem mof_any (A : Option Addr) (n c : Nat) (b : List UInt8) (w : World) (hl : b.length = n) (h : Rd w w.heap.size A b) :
    Calls Try.prog 10 #[.slice A n c] w (OfPost w n b Ed.agg) := by
  obtain ⟨H, hH⟩ : ∃ H, H = w.heap.size := ⟨_, rfl⟩
  obtain ⟨w0, hw0⟩ : ∃ w0, w0 = w.alloc (.cells #[.int .u32 0, .int .u32 0, .int .u32 0] 24) := ⟨_, rfl⟩
  have hb0 : Below w.heap.size w w0 := by rw [hw0]; exact (Below.refl _ _).alloc (Nat.le_refl _) _
  have BZ := Lib.hid (show Blk w0 H [.int .u32 0, .int .u32 0, .int .u32 0] by rw [hw0, hH]; exact Blk.new w [.int .u32 0, .int .u32 0, .int .u32 0] _)
  have HD := Lib.hid (mdec_post A n c b w0 hl ((h.below hb0).more hb0.size))
  have HW0 := Lib.hid hw0
  have HHE := Lib.hid hH
  have HB0 := Lib.hid hb0
  clear hw0 hH hb0 hl h
  go_enter Try.func10, Try.ntmps10
  go_upto_region 1 with fail
  rw [← HW0.out, ← HHE.out]
  go_wp2_with fail
  refine HD.out.mono ?_
  rintro e w1 ⟨⟨x0, x1, x2⟩, z, rfl, hk, hb1⟩
  have HB1 := Lib.hid hb1
  have HK := Lib.hid hk
  clear HD hb1 hk
  unfold numV
  obtain ⟨w2, hw2⟩ : ∃ w2, w2 = w1.alloc (.cells #[.int .u32 (x0 : Int), .int .u32 (x1 : Int), .int .u32 (x2 : Int)] 63) := ⟨_, rfl⟩
  have HB2 := Lib.hid (show Below w0.heap.size w0 w2 from by rw [hw2]; exact HB1.out.alloc HB1.out.size _)
  have BN := Lib.hid (show Blk w2 w1.heap.size [.int .u32 (x0 : Int), .int .u32 (x1 : Int), .int .u32 (x2 : Int)] from by rw [hw2]; exact Blk.new w1 [.int .u32 (x0 : Int), .int .u32 (x1 : Int), .int .u32 (x2 : Int)] _)
  have HW2 := Lib.hid hw2
  clear hw2
  go_upto_region 2 with fail
  rw [← HW2.out]
  have n0 := BN.out.cell (i := 0) rfl
  have n1 := BN.out.cell (i := 1) rfl
  have n2 := BN.out.cell (i := 2) rfl
  have BZ2 := Lib.hid (BZ.out.past HB2.out)
  go_wp2_with (refine wpList_store_blk rfl 24 _ _ rfl H _ #[.int .u32 (x0 : Int), .int .u32 (x1 : Int), .int .u32 (x2 : Int)] rfl rfl BZ2.out rfl ed_size (ed_one _ _ _) ?_
               intro w3 hb3 ho3
               have HB3 := Lib.hid hb3
               have HO3 := Lib.hid ho3
               clear hb3 ho3)
  have r0 := HB3.out.cell (i := 0) rfl
  have r1 := HB3.out.cell (i := 1) rfl
  have r2 := HB3.out.cell (i := 2) rfl
  refine bodyPost_ret (v := .tuple #[Ed.agg ⟨x0, x1, x2⟩, .int .i64 z]) (by simp [results, Try.results10, go_sem, r0, r1, r2]) rfl ?_
  exact ⟨_, z, rfl, HK.out, HB0.out.trans ((HB2.out.mono HB0.out.size).trans (HO3.out.below (fun k _ e => by have := HHE.out; omega) (by have := HB2.out.size; have := HB0.out.size; omega)))⟩
end Go.Proofs.Ytniffijjdehnaaa
