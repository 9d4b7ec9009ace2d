/- Texts put together, for a law: MmA, MmB, MmC. -/
import Derived.LoopN
import Derived.Test.YteaibgnelnblnaaKQ14
section
namespace Go.Proofs.Yteaibgnelnblnaa
open Go.RowKit Me Tx Ed Mg

/-- The numbers of an edge, in a key's order. -/
def edN (x : EdD) : Nat → Nat
  | 0 => x.src
  | 1 => x.dst
  | _ => x.wgt
/-- A key's front. -/
def keyF (x : EdD) : Nat → List UInt8
  | 0 => []
  | k + 1 => keyF x k ++ be4 (edN x k)
theorem keyF_all (x : EdD) : keyF x 3 = keyB x := by
  unfold keyB
  rw [keyF, keyF, keyF, keyF, List.nil_append, List.append_assoc]
  rfl
set_option maxRecDepth 100000 in
set_option maxHeartbeats 2000000 in
theorem mkey_any (x : EdD) (hx : FitE x) (w : World) : Calls Try.prog 28 #[Ed.agg x] w (News w (keyB x)) := by
  obtain ⟨H, hH⟩ : ∃ H, H = w.heap.size := ⟨_, rfl⟩
  obtain ⟨w0, hw0⟩ : ∃ w0, w0 = w.alloc (.cells #[.int .u32 (x.src : Int), .int .u32 (x.dst : Int), .int .u32 (x.wgt : Int)] 58) := ⟨_, rfl⟩
  have hb0 : Below w.heap.size w w0 := by rw [hw0]; exact (Below.refl _ _).alloc (Nat.le_refl _) _
  have BA := Lib.hid (show Blk w0 H [.int .u32 (x.src : Int), .int .u32 (x.dst : Int), .int .u32 (x.wgt : Int)] by rw [hw0, hH]; exact Blk.new w [.int .u32 (x.src : Int), .int .u32 (x.dst : Int), .int .u32 (x.wgt : Int)] _)
  obtain ⟨a, ha⟩ : ∃ a, a = x.src := ⟨_, rfl⟩
  obtain ⟨b, hb⟩ : ∃ a, a = x.dst := ⟨_, rfl⟩
  obtain ⟨d, hd⟩ : ∃ a, a = x.wgt := ⟨_, rfl⟩
  have HN := Lib.hid (show edN x 0 = a ∧ edN x 1 = b ∧ edN x 2 = d from ⟨ha.symm, hb.symm, hd.symm⟩)
  have HF := Lib.hid (show ∀ k, edN x k < 4294967296 from fun k => by
    unfold edN
    split
    · exact hx.1
    · exact hx.2.1
    · exact hx.2.2)
  rw [← ha, ← hb, ← hd] at BA
  obtain ⟨i0, hi0, hz0, hz1, hz2⟩ := info_parts u8_info
  have c0 : w0.cell? ⟨H, 0, none⟩ = some (.int .u32 (a : Int)) := BA.out.cell rfl
  have c1 : w0.cell? ⟨H, 1, none⟩ = some (.int .u32 (b : Int)) := BA.out.cell rfl
  have c2 : w0.cell? ⟨H, 2, none⟩ = some (.int .u32 (d : Int)) := BA.out.cell rfl
  have HH0 := Lib.hid (show H < w0.heap.size from BA.out.lt)
  have HW0 := Lib.hid hw0
  have HHE := Lib.hid hH
  have HB0 := Lib.hid hb0
  clear ha hb hd hw0 hH hb0
  go_enter Try.func28, Try.ntmps28
  go_upto_region 1 with fail
  rw [← HW0.out, ← HHE.out]
  go_wp2_with (refine wpList_make_own w0 rfl _ _ 62 rfl w0.heap.size 5 i0 _ 1 Try.underlying62 hi0 hz0 hz1 .i64 .i64 12 12 rfl rfl rfl (by rw [hz2]; omega) (by unfold maxLen; omega) (Nat.le_refl _) ?_; intro w1 ho1 hg1; refine Classical.byContradiction fun hcontra => ?_)
  have HO1 := Lib.hid (show w1.ownsRow w0.heap.size 5 1 (.slice (some ⟨w0.heap.size, 0, none⟩) 0 12) 0 (cellsOf []) from ho1)
  have HB1 := Lib.hid (show Below w0.heap.size w0 w1 from (Below.refl _ _).grown hg1 (Nat.le_refl _) (fun k e => by cases e))
  have HS1 := Lib.hid (show w0.heap.size ≤ w1.heap.size from HB1.out.size)
  clear ho1 hg1
  apply hcontra
  clear hcontra
  have d0 := (HB1.out.cell (p := ⟨H, 0, none⟩) HH0.out).trans c0
  have d1 := (HB1.out.cell (p := ⟨H, 1, none⟩) HH0.out).trans c1
  have d2 := (HB1.out.cell (p := ⟨H, 2, none⟩) HH0.out).trans c2
  clear c0 c1 c2
  go_wp2
  go_loopw [14, 3] (fun iv v wr => ∃ (k : Nat) (A : Option Addr) (n c : Nat), k ≤ 3 ∧ iv = .int .i64 (k : Int) ∧ v = .slice A n c ∧ Hid (4 * k = n ∧ n ≤ c) ∧ Hid (wr.ownsRow w0.heap.size 5 1 (.slice A n c) n (cellsOf (keyF x k))) ∧ Hid (Below w0.heap.size w0 wr)) (fun iv _ _ => 3 - (intOf iv).toNat)
  case atStart => exact ⟨0, _, 0, 12, by omega, rfl, rfl, Lib.hid ⟨rfl, by omega⟩, HO1, HB1⟩
  case round =>
    clear d0 d1 d2
    obtain ⟨k, A, n, c, hk, rfl, rfl, HNC, HO, HB⟩ := hrel
    by_cases hlt : k < 3
    · obtain ⟨u, hu⟩ : ∃ u, u = edN x k := ⟨_, rfl⟩
      have HU := Lib.hid hu
      have hu32 : u < 4294967296 := by rw [hu]; exact HF.out k
      clear hu
      have hk2 : (k = 0 ∧ a = u) ∨ (k = 1 ∧ b = u) ∨ (k = 2 ∧ d = u) := by
        have h := HN.out
        rcases (show k = 0 ∨ k = 1 ∨ k = 2 by omega) with e | e | e
        · exact .inl ⟨e, by rw [HU.out, e]; exact h.1.symm⟩
        · exact .inr (.inl ⟨e, by rw [HU.out, e]; exact h.2.1.symm⟩)
        · exact .inr (.inr ⟨e, by rw [HU.out, e]; exact h.2.2.symm⟩)
      have hidx : ∀ W : World, (Instr.index 89 (.agg #[.int .u32 (a : Int), .int .u32 (b : Int), .int .u32 (d : Int)]) (.int .i64 (k : Int))).run Try.prog W = .ok (.int .u32 (u : Int)) W := fun W => by
        rcases hk2 with ⟨rfl, rfl⟩ | ⟨rfl, rfl⟩ | ⟨rfl, rfl⟩
        · simp [Instr.index, go_sem]
        · simp [Instr.index, go_sem]
        · simp [Instr.index, go_sem]
      clear hk2
      have HBL := Lib.hid (be4_length u)
      have HCE := Lib.hid (show (#[.int .u8 ((u : Int) / 16777216 % 256), .int .u8 ((u : Int) / 65536 % 256), .int .u8 ((u : Int) / 256 % 256), .int .u8 ((u : Int) % 256)] : Array Value).toList = cellsOf (be4 u) by
        rw [cells_be4 u hu32, show (u : Int) / 16777216 % 256 = ((u / 16777216 : Nat) : Int) by omega]
        rfl)
      have HLE := Lib.hid (show w0.heap.size ≤ wr.heap.size from HB.out.size)
      have hn12 : n ≤ 12 := by have := HNC.out.1; omega
      clear hu32
      go_wp2_with (at_builtin
                   go_loud (refine wpList_app rfl (.tmp 17) (.tmp 29) 62 rfl w0.heap.size 5 i0 _ Try.underlying62 hi0 hz0 hz1 hz2 rfl (.slice A n c) n (keyF x k) rfl (HO.out.alloc _) (wr.heap.size + 1) (some ⟨wr.heap.size, 0, none⟩) 4 4 (be4 u) rfl HBL.out (Rd.lit wr _ _ _ HCE.out) (by omega) (by rw [World.size_alloc]; have := HLE.out; omega) ?_)
                   intro v2 w2 ho2 hg2 hn2
                   refine Classical.byContradiction fun hcontra => ?_)
      obtain ⟨B2, d2, hv2⟩ := own_slice ho2
      subst hv2
      have HO2 := Lib.hid (show w2.ownsRow w0.heap.size 5 1 (.slice B2 (n + 4) d2) (n + 4) (cellsOf (keyF x (k + 1))) from by rw [keyF, ← HU.out]; exact ho2)
      have HC2 := Lib.hid (show 4 * (k + 1) = n + 4 ∧ n + 4 ≤ d2 from ⟨by have := HNC.out.1; omega, own_cap ho2 (by omega)⟩)
      have HB2 := Lib.hid (below_app (HB.out.alloc HLE.out _) (HO.out.alloc _) (Nat.le_refl _) (by rw [World.size_alloc]; have := HLE.out; omega) hg2)
      clear ho2 hg2 hn2 HO HB hidx
      apply hcontra
      clear hcontra
      go_wp2
      go_roundw
      case rel => exact ⟨k + 1, B2, n + 4, d2, by omega, by go_num, rfl, HC2, HO2, HB2⟩
      case measure => simp [intOf]; omega
    · obtain rfl : k = 3 := by omega
      go_wp2
      go_ret
      refine ⟨_, n, rfl, ?_, HB0.out.trans (HB.out.mono HB0.out.size)⟩
      rw [← keyF_all]
      exact own_more HO.out HB0.out.size
end Go.Proofs.Yteaibgnelnblnaa
end
section
namespace Go.Proofs.Yteaibgnelnblnaa
open Go.RowKit Me Tx Ed Mg

/-- The number of bytes, the highest one first. -/
def vb (l : List UInt8) : Nat := l.foldl (fun a u => a * 256 + u.toNat) 0
theorem vb_snoc (l : List UInt8) (u : UInt8) : vb (l ++ [u]) = vb l * 256 + u.toNat := by unfold vb; rw [List.foldl_append]; rfl
/-- How far a number has come behind k bytes of a key. -/
def celB (b : List UInt8) (k j : Nat) : Nat := vb (((b.take k).drop (4 * j)).take 4)
theorem celB_zero (b : List UInt8) (j : Nat) : celB b 0 j = 0 := by unfold celB; simp [vb]
theorem celB_same {b : List UInt8} {k : Nat} {u : UInt8} (h : b[k]? = some u) {j : Nat} (h1 : 4 * j ≤ k) (h2 : k < 4 * j + 4) : celB b (k + 1) j = celB b k j * 256 + u.toNat := by
  have hk : k < b.length := (List.getElem?_eq_some_iff.1 h).1
  unfold celB
  have hl : (b.take k).length = k := by rw [List.length_take]; omega
  rw [take_snoc h, List.drop_append_of_le_length (by omega), List.take_of_length_le (l := (b.take k).drop (4 * j) ++ [u]) (by rw [List.length_append, List.length_drop, hl]; simp; omega), List.take_of_length_le (l := (b.take k).drop (4 * j)) (by rw [List.length_drop, hl]; omega), vb_snoc]
theorem celB_other {b : List UInt8} {k : Nat} {u : UInt8} (h : b[k]? = some u) {j : Nat} (h1 : k < 4 * j ∨ 4 * j + 4 ≤ k) : celB b (k + 1) j = celB b k j := by
  have hk : k < b.length := (List.getElem?_eq_some_iff.1 h).1
  have hl : (b.take k).length = k := by rw [List.length_take]; omega
  unfold celB
  rw [take_snoc h]
  rcases h1 with h1 | h1
  · rw [List.drop_of_length_le (by simp; omega), List.drop_of_length_le (by omega)]
  · rw [List.drop_append_of_le_length (by omega), List.take_append_of_le_length (by rw [List.length_drop]; omega)]
theorem vb_lt : ∀ (l : List UInt8), vb l < 256 ^ l.length := fun l => by
  have key : ∀ (l : List UInt8) (a m : Nat), a < 256 ^ m → l.foldl (fun a u => a * 256 + u.toNat) a < 256 ^ (m + l.length) := fun l => by
    induction l with
    | nil => exact fun a m h => h
    | cons u l ih =>
      intro a m h
      have hu := u.toNat_lt
      rw [List.foldl_cons, List.length_cons, show m + (l.length + 1) = (m + 1) + l.length by omega]
      refine ih _ (m + 1) ?_
      rw [Nat.pow_succ]
      omega
  have := key l 0 0 (by decide)
  rwa [Nat.zero_add] at this
theorem celB_lt (b : List UInt8) (k j : Nat) {m : Nat} (h : k ≤ 4 * j + m) : celB b k j < 256 ^ m := by
  unfold celB
  have h1 := vb_lt (((b.take k).drop (4 * j)).take 4)
  refine Nat.lt_of_lt_of_le h1 (Nat.pow_le_pow_right (by decide) ?_)
  rw [List.length_take, List.length_drop, List.length_take]
  omega
theorem vb_four {l : List UInt8} (h : l.length = 4) : vb l = nb4 l := by
  match l, h with
  | [a, b, c, d], _ =>
    show ((((0 * 256 + a.toNat) * 256 + b.toNat) * 256 + c.toNat) * 256 + d.toNat) = 16777216 * a.toNat + 65536 * b.toNat + 256 * c.toNat + d.toNat
    omega
theorem celB_all {b : List UInt8} (h : b.length = 12) : edB b = ⟨celB b 12 0, celB b 12 1, celB b 12 2⟩ := by
  unfold celB edB
  rw [List.take_of_length_le (Nat.le_of_eq h), vb_four (by rw [List.length_take, List.length_drop]; omega), vb_four (by rw [List.length_take, List.length_drop]; omega), vb_four (by rw [List.length_take, List.length_drop]; omega), List.take_of_length_le (i := 4) (l := b.drop (4 * 2)) (by rw [List.length_drop]; omega)]
  rfl
/-- A key's numbers, as a value. -/
def numV (x : EdD) : Value := .agg #[.int .u32 (x.src : Int), .int .u32 (x.dst : Int), .int .u32 (x.wgt : Int)]
theorem num_size : (Try.prog.info? 89).map (·.size) = some 3 := by kernel_rfl
theorem or_shift (x y : Nat) (hx : x < 16777216) (hy : y < 256) : bits .or .u32 ((x : Int) * 256 % 4294967296) (y : Int) = ((x * 256 + y : Nat) : Int) := by
  have e : (x : Int) * 256 % 4294967296 = ((2 ^ 8 * x : Nat) : Int) := by omega
  rw [e, u32_or_nat _ _ (by omega) (by omega), ← Nat.two_pow_add_eq_or_of_lt (by omega) x]
  omega
set_option maxRecDepth 100000 in
set_option maxHeartbeats 2000000 in
theorem mdec_any (A : Option Addr) (n c : Nat) (b : List UInt8) (w : World) (hl : b.length = n) (h : Rd w w.heap.size A b) :
    Calls Try.prog 107 #[.slice A n c] w fun e w' => (if n = 12 then e = .returned (.tuple #[numV (edB b), .int .i64 0]) else e = .returned (.tuple #[numV ⟨0, 0, 0⟩, .int .i64 3])) ∧ Below w.heap.size w w' := by
  obtain ⟨H, hH⟩ : ∃ H, H = w.heap.size := ⟨_, rfl⟩
  obtain ⟨w0, hw0⟩ : ∃ w0, w0 = (w.alloc (.cells #[.int .u32 0, .int .u32 0, .int .u32 0] 89)).alloc (.cells #[.int .u32 0, .int .u32 0, .int .u32 0] 89) := ⟨_, rfl⟩
  have hb0 : Below w.heap.size w w0 := by rw [hw0]; exact ((Below.refl _ _).alloc (Nat.le_refl _) _).alloc (by simp) _
  have BZ := Lib.hid (show Blk w0 H [.int .u32 0, .int .u32 0, .int .u32 0] by rw [hw0, hH]; exact (Blk.new w [.int .u32 0, .int .u32 0, .int .u32 0] _).alloc _)
  have BN := Lib.hid (show Blk w0 (H + 1) [.int .u32 0, .int .u32 0, .int .u32 0] by rw [hw0, hH]; exact Blk.new' (w.alloc _) [.int .u32 0, .int .u32 0, .int .u32 0] _ (by simp))
  have HW0 := Lib.hid hw0
  have HHE := Lib.hid hH
  have HB0 := Lib.hid hb0
  have HL := Lib.hid hl
  have HR := Lib.hid h
  have HFR := Lib.hid (show ∀ W : World, Out (fun k => k = H ∨ k = H + 1) w0 W → Below w.heap.size w W from fun W ho => HB0.out.trans (ho.below (fun k _ e => by have := HHE.out; omega) HB0.out.size))
  clear hw0 hH hb0 hl h
  by_cases h12 : n = 12
  · subst h12
    go_enter Try.func107, Try.ntmps107
    go_upto_region 2 with fail
    rw [← HW0.out, ← HHE.out]
    go_wp2
    go_loopw [13] (fun iv wr => ∃ (k : Nat), k ≤ 12 ∧ iv = .int .i64 (k : Int) ∧ Hid (Blk wr (H + 1) [.int .u32 (celB b k 0 : Int), .int .u32 (celB b k 1 : Int), .int .u32 (celB b k 2 : Int)]) ∧ Hid (Blk wr H [.int .u32 0, .int .u32 0, .int .u32 0]) ∧ Hid (Out (fun k => k = H ∨ k = H + 1) w0 wr)) (fun iv _ => 12 - (intOf iv).toNat)
    case atStart => exact ⟨0, by omega, rfl, by rw [celB_zero, celB_zero, celB_zero]; exact BN, BZ, Lib.hid (Out.refl _ _)⟩
    case round =>
      obtain ⟨k, hk, rfl, HBK, HZB, HO⟩ := hrel
      by_cases hlt : k < 12
      · obtain ⟨a, u, rfl, hab, hu, hc⟩ := HR.out.at (k := k) (by rw [HL.out]; exact hlt)
        obtain ⟨y, hy⟩ : ∃ y, y = u.toNat := ⟨_, rfl⟩
        have hy8 : y < 256 := by rw [hy]; exact u.toNat_lt
        rw [← hy] at hc
        have hcell : wr.cell? (a.add k) = some (.int .u8 (y : Int)) := ((HFR.out _ HO.out).cell (by rw [block_add]; exact hab)).trans hc
        have HY := Lib.hid hy
        have HU := Lib.hid hu
        clear hc hab hy hu
        obtain ⟨z0, hz0⟩ : ∃ z, z = celB b k 0 := ⟨_, rfl⟩
        obtain ⟨z1, hz1⟩ : ∃ z, z = celB b k 1 := ⟨_, rfl⟩
        obtain ⟨z2, hz2⟩ : ∃ z, z = celB b k 2 := ⟨_, rfl⟩
        rw [← hz0, ← hz1, ← hz2] at HBK
        have b0 := HBK.out.cell (i := 0) rfl
        have b1 := HBK.out.cell (i := 1) rfl
        have b2 := HBK.out.cell (i := 2) rfl
        have f0 := HBK.out.frozen 0
        have f1 := HBK.out.frozen 1
        have f2 := HBK.out.frozen 2
        have HZ := Lib.hid (And.intro hz0 (And.intro hz1 hz2))
        have HY8 := Lib.hid hy8
        obtain ⟨q, hq⟩ : ∃ q, q = k / 4 := ⟨_, rfl⟩
        have hq3 : q = 0 ∨ q = 1 ∨ q = 2 := by omega
        have hlo : 4 * q ≤ k ∧ k < 4 * q + 4 := by omega
        have ht : (k : Int).tdiv 4 = (q : Int) := by rw [Int.tdiv_eq_ediv_of_nonneg (by omega)]; omega
        have hw8 : IntKind.u32.wrap (y : Int) = (y : Int) := by rw [IntKind.wrap_u32]; omega
        have HLO := Lib.hid hlo
        clear hz0 hz1 hz2 hq hy8 hlo
        rcases hq3 with rfl | rfl | rfl
        · obtain ⟨x, hx⟩ : ∃ x, x = z0 * 256 + y := ⟨_, rfl⟩
          have he : bits .or .u32 ((z0 : Int) * 256 % 4294967296) (y : Int) = (x : Int) := by
            rw [hx]
            refine or_shift z0 y ?_ HY8.out
            rw [HZ.out.1]
            exact celB_lt b k 0 (m := 3) (by have := HLO.out; omega)
          have HX := Lib.hid hx
          have HN := Lib.hid (show Blk (wr.setCell ⟨H + 1, 0, none⟩ (.int .u32 (x : Int))) (H + 1) [.int .u32 (celB b (k + 1) 0 : Int), .int .u32 (celB b (k + 1) 1 : Int), .int .u32 (celB b (k + 1) 2 : Int)] from by
            rw [celB_same HU.out (j := 0) (by have := HLO.out; omega) (by have := HLO.out; omega), ← HZ.out.1, ← HY.out, ← HX.out, celB_other HU.out (j := 1) (by have := HLO.out; omega), ← HZ.out.2.1, celB_other HU.out (j := 2) (by have := HLO.out; omega), ← HZ.out.2.2]
            exact HBK.out.set 0 _)
          have HZ2 := Lib.hid (HZB.out.other (p := ⟨H + 1, 0, none⟩) (show H + 1 ≠ H by omega) (.int .u32 (x : Int)))
          have HO2 := Lib.hid (HO.out.setCell (p := ⟨H + 1, 0, none⟩) (.inl (.inr rfl)) (.int .u32 (x : Int)))
          clear hx
          go_wp2
          exact ⟨⟨k + 1, by omega, by go_num, HN, HZ2, HO2⟩, by simp [intOf]; omega⟩
        · obtain ⟨x, hx⟩ : ∃ x, x = z1 * 256 + y := ⟨_, rfl⟩
          have he : bits .or .u32 ((z1 : Int) * 256 % 4294967296) (y : Int) = (x : Int) := by
            rw [hx]
            refine or_shift z1 y ?_ HY8.out
            rw [HZ.out.2.1]
            exact celB_lt b k 1 (m := 3) (by have := HLO.out; omega)
          have HX := Lib.hid hx
          have HN := Lib.hid (show Blk (wr.setCell ⟨H + 1, 1, none⟩ (.int .u32 (x : Int))) (H + 1) [.int .u32 (celB b (k + 1) 0 : Int), .int .u32 (celB b (k + 1) 1 : Int), .int .u32 (celB b (k + 1) 2 : Int)] from by
            rw [celB_other HU.out (j := 0) (by have := HLO.out; omega), ← HZ.out.1, celB_same HU.out (j := 1) (by have := HLO.out; omega) (by have := HLO.out; omega), ← HZ.out.2.1, ← HY.out, ← HX.out, celB_other HU.out (j := 2) (by have := HLO.out; omega), ← HZ.out.2.2]
            exact HBK.out.set 1 _)
          have HZ2 := Lib.hid (HZB.out.other (p := ⟨H + 1, 1, none⟩) (show H + 1 ≠ H by omega) (.int .u32 (x : Int)))
          have HO2 := Lib.hid (HO.out.setCell (p := ⟨H + 1, 1, none⟩) (.inl (.inr rfl)) (.int .u32 (x : Int)))
          clear hx
          go_wp2
          exact ⟨⟨k + 1, by omega, by go_num, HN, HZ2, HO2⟩, by simp [intOf]; omega⟩
        · obtain ⟨x, hx⟩ : ∃ x, x = z2 * 256 + y := ⟨_, rfl⟩
          have he : bits .or .u32 ((z2 : Int) * 256 % 4294967296) (y : Int) = (x : Int) := by
            rw [hx]
            refine or_shift z2 y ?_ HY8.out
            rw [HZ.out.2.2]
            exact celB_lt b k 2 (m := 3) (by have := HLO.out; omega)
          have HX := Lib.hid hx
          have HN := Lib.hid (show Blk (wr.setCell ⟨H + 1, 2, none⟩ (.int .u32 (x : Int))) (H + 1) [.int .u32 (celB b (k + 1) 0 : Int), .int .u32 (celB b (k + 1) 1 : Int), .int .u32 (celB b (k + 1) 2 : Int)] from by
            rw [celB_other HU.out (j := 0) (by have := HLO.out; omega), ← HZ.out.1, celB_other HU.out (j := 1) (by have := HLO.out; omega), ← HZ.out.2.1, celB_same HU.out (j := 2) (by have := HLO.out; omega) (by have := HLO.out; omega), ← HZ.out.2.2, ← HY.out, ← HX.out]
            exact HBK.out.set 2 _)
          have HZ2 := Lib.hid (HZB.out.other (p := ⟨H + 1, 2, none⟩) (show H + 1 ≠ H by omega) (.int .u32 (x : Int)))
          have HO2 := Lib.hid (HO.out.setCell (p := ⟨H + 1, 2, none⟩) (.inl (.inr rfl)) (.int .u32 (x : Int)))
          clear hx
          go_wp2
          exact ⟨⟨k + 1, by omega, by go_num, HN, HZ2, HO2⟩, by simp [intOf]; omega⟩
      · obtain rfl : k = 12 := by omega
        have b0 := HBK.out.cell (i := 0) rfl
        have b1 := HBK.out.cell (i := 1) rfl
        have b2 := HBK.out.cell (i := 2) rfl
        have HE := Lib.hid (celB_all HL.out)
        go_wp2_with (refine wpList_store_blk rfl 89 _ _ rfl H _ #[.int .u32 (celB b 12 0 : Int), .int .u32 (celB b 12 1 : Int), .int .u32 (celB b 12 2 : Int)] rfl rfl HZB.out rfl num_size (ed_one _ _ _) ?_
                     intro w1 hb1 ho1
                     have HB1 := Lib.hid hb1
                     have HO1 := Lib.hid ho1
                     clear hb1 ho1)
        have r0 := HB1.out.cell (i := 0) rfl
        have r1 := HB1.out.cell (i := 1) rfl
        have r2 := HB1.out.cell (i := 2) rfl
        refine bodyPost_ret (v := .tuple #[numV ⟨celB b 12 0, celB b 12 1, celB b 12 2⟩, .int .i64 0]) (by simp [results, Try.results107, go_sem, r0, r1, r2, numV]) rfl ?_
        exact ⟨by simp [HE.out], HFR.out _ (HO.out.trans (HO1.out.more fun k _ e => .inl e))⟩
  · have hne : ((n : Int) != 12) = true := by simp; omega
    have y0 := BN.out.cell (i := 0) rfl
    have y1 := BN.out.cell (i := 1) rfl
    have y2 := BN.out.cell (i := 2) rfl
    go_enter Try.func107, Try.ntmps107
    go_upto_region 2 with fail
    rw [← HW0.out, ← HHE.out]
    go_wp2_with (refine wpList_store_blk rfl 89 _ _ rfl H _ #[.int .u32 0, .int .u32 0, .int .u32 0] rfl rfl BZ.out rfl num_size (ed_one 0 0 0) ?_
                 intro w1 hb1 ho1
                 have HB1 := Lib.hid hb1
                 have HO1 := Lib.hid ho1
                 clear hb1 ho1)
    have r0 := HB1.out.cell (i := 0) rfl
    have r1 := HB1.out.cell (i := 1) rfl
    have r2 := HB1.out.cell (i := 2) rfl
    refine bodyPost_ret (v := .tuple #[numV ⟨0, 0, 0⟩, .int .i64 3]) (by simp [results, Try.results107, go_sem, r0, r1, r2, numV]) rfl ?_
    exact ⟨by simp [h12], HFR.out _ (HO1.out.more fun k _ e => .inl e)⟩
/-- A key's numbers, or the error. -/
def OfPost (w : World) (n : Nat) (b : List UInt8) (V : EdD → Value) (e : Ending) (w' : World) : Prop :=
  ∃ (x : EdD) (z : Int), e = .returned (.tuple #[V x, .int .i64 z]) ∧ ((n = 12 ∧ x = edB b ∧ z = 0) ∨ (n ≠ 12 ∧ x = ⟨0, 0, 0⟩ ∧ z = 3)) ∧ Below w.heap.size w w'
theorem mdec_post (A : Option Addr) (n c : Nat) (b : List UInt8) (w : World) (hl : b.length = n) (h : Rd w w.heap.size A b) :
    Calls Try.prog 107 #[.slice A n c] w (OfPost w n b numV) := by
  refine (mdec_any A n c b w hl h).mono ?_
  rintro e w' ⟨he, hb⟩
  by_cases h12 : n = 12
  · rw [if_pos h12] at he
    exact ⟨_, _, he, .inl ⟨h12, rfl, rfl⟩, hb⟩
  · rw [if_neg h12] at he
    exact ⟨_, _, he, .inr ⟨h12, rfl, rfl⟩, hb⟩
end Go.Proofs.Yteaibgnelnblnaa
end
section
namespace Go.Proofs.Yteaibgnelnblnaa
open Go.RowKit Me Tx Ed Mg

/-- Which of two numbers is the lower one. -/
def cmpN (a b : Nat) : Int := if a < b then -1 else if b < a then 1 else 0
def cmpL : List Nat → List Nat → Int
  | [], [] => 0
  | [], _ :: _ => -1
  | _ :: _, [] => 1
  | a :: l, b :: m => if cmpN a b = 0 then cmpL l m else cmpN a b
set_option maxRecDepth 100000 in
theorem isnan_any (a : Nat) (w : World) : Calls Try.prog 82 #[.int .u32 (a : Int)] w fun e w' => e = .returned (.bool false) ∧ w' = w := by
  have d0 : ((a : Int) != (a : Int)) = false := by simp
  go_enter Try.func82, Try.ntmps82
  go_wp2
  go_ret
  exact ⟨rfl, rfl⟩
set_option maxRecDepth 100000 in
set_option maxHeartbeats 1000000 in
theorem cmpc_any (a b : Nat) (w : World) : Calls Try.prog 60 #[.int .u32 (a : Int), .int .u32 (b : Int)] w fun e w' => e = .returned (.int .i64 (cmpN a b)) ∧ w' = w := by
  have HA := Lib.hid (isnan_any a)
  have HB := Lib.hid (isnan_any b)
  by_cases h1 : a < b
  · have h1' : (a : Int) < (b : Int) := by omega
    have HE := Lib.hid (show cmpN a b = -1 by unfold cmpN; rw [if_pos h1])
    clear h1
    go_enter Try.func60, Try.ntmps60
    go_wp2_with fail
    refine (HA.out _).mono ?_
    rintro e w1 ⟨rfl, rfl⟩
    go_wp2_with fail
    refine (HB.out _).mono ?_
    rintro e w1 ⟨rfl, rfl⟩
    go_wp2
    go_ret
    exact ⟨by rw [HE.out]; rfl, rfl⟩
  · have h1' : ¬ (a : Int) < (b : Int) := by omega
    by_cases h2 : b < a
    · have h2' : (b : Int) < (a : Int) := by omega
      have HE := Lib.hid (show cmpN a b = 1 by unfold cmpN; rw [if_neg h1, if_pos h2])
      clear h1 h2
      go_enter Try.func60, Try.ntmps60
      go_wp2_with fail
      refine (HA.out _).mono ?_
      rintro e w1 ⟨rfl, rfl⟩
      go_wp2_with fail
      refine (HB.out _).mono ?_
      rintro e w1 ⟨rfl, rfl⟩
      go_wp2
      go_ret
      exact ⟨by rw [HE.out]; rfl, rfl⟩
    · have h2' : ¬ (b : Int) < (a : Int) := by omega
      have HE := Lib.hid (show cmpN a b = 0 by unfold cmpN; rw [if_neg h1, if_neg h2])
      clear h1 h2
      go_enter Try.func60, Try.ntmps60
      go_wp2_with fail
      refine (HA.out _).mono ?_
      rintro e w1 ⟨rfl, rfl⟩
      go_wp2_with fail
      refine (HB.out _).mono ?_
      rintro e w1 ⟨rfl, rfl⟩
      go_wp2
      go_ret
      exact ⟨by rw [HE.out]; rfl, rfl⟩
/-- The cells of numbers. -/
def nCells (l : List Nat) : List Value := l.map fun (a : Nat) => .int .u32 (a : Int)
theorem cs_at {w : World} {B : Nat} {A : Option Addr} {l : List Nat} (h : Cs w B A (nCells l)) {k : Nat} (hk : k < l.length) : ∃ (a : Addr) (x : Nat), A = some a ∧ l[k]? = some x ∧ a.block < B ∧ w.cell? (a.add k) = some (.int .u32 (x : Int)) := by
  obtain ⟨a, e, hb, hc⟩ := h (by unfold nCells; rw [List.length_map]; omega)
  exact ⟨a, l[k], e, List.getElem?_eq_getElem hk, hb, hc k _ (by unfold nCells; rw [List.getElem?_map, List.getElem?_eq_getElem hk]; rfl)⟩
theorem cmpL_drop {l m : List Nat} {k a b : Nat} (ha : l[k]? = some a) (hb : m[k]? = some b) : cmpL (l.drop k) (m.drop k) = if cmpN a b = 0 then cmpL (l.drop (k + 1)) (m.drop (k + 1)) else cmpN a b := by
  obtain ⟨h1, h2⟩ := List.getElem?_eq_some_iff.1 ha
  obtain ⟨h3, h4⟩ := List.getElem?_eq_some_iff.1 hb
  rw [List.drop_eq_getElem_cons h1, List.drop_eq_getElem_cons h3, h2, h4, cmpL]
set_option maxRecDepth 100000 in
set_option maxHeartbeats 1000000 in
theorem compare_any (A A' : Option Addr) (n c c' : Nat) (l m : List Nat) (w : World) (hn : n ≤ 1000000) (hl : l.length = n) (hm : m.length = n) (h : Cs w w.heap.size A (nCells l)) (h' : Cs w w.heap.size A' (nCells m)) :
    Calls Try.prog 108 #[.slice A n c, .slice A' n c'] w fun e w' => e = .returned (.int .i64 (cmpL l m)) ∧ w' = w := by
  have HL := Lib.hid hl
  have HM := Lib.hid hm
  have HA := Lib.hid h
  have HA' := Lib.hid h'
  clear hl hm h h'
  go_enter Try.func108, Try.ntmps108
  go_wp2
  go_loopw [11] (fun i wr => ∃ k : Nat, k ≤ n ∧ i = .int .i64 (k : Int) ∧ Hid (cmpL l m = cmpL (l.drop k) (m.drop k)) ∧ wr = w) (fun i _ => n - (intOf i).toNat)
  case atStart => exact ⟨0, Nat.zero_le _, rfl, Lib.hid rfl, rfl⟩
  case round =>
    obtain ⟨k, hk, rfl, HE, rfl⟩ := hrel
    by_cases hlt : k < n
    · obtain ⟨a, x, rfl, hx, -, h1⟩ := cs_at HA.out (k := k) (by rw [HL.out]; exact hlt)
      obtain ⟨a', y, rfl, hy, -, h2⟩ := cs_at HA'.out (k := k) (by rw [HM.out]; exact hlt)
      have HS := Lib.hid (HE.out.trans (cmpL_drop hx hy))
      have HC := Lib.hid (cmpc_any x y)
      obtain ⟨z, hz⟩ : ∃ z, z = cmpN x y := ⟨_, rfl⟩
      rw [← hz] at HC HS
      clear hx hy hz
      by_cases h0 : z = 0
      · have HS2 := Lib.hid (show cmpL l m = cmpL (l.drop (k + 1)) (m.drop (k + 1)) by rw [HS.out, if_pos h0])
        have d0 : (z != 0) = false := by simp [h0]
        clear h0
        go_wp2_with fail
        refine (HC.out _).mono ?_
        rintro e w1 ⟨rfl, rfl⟩
        go_wp2
        go_roundw
        case rel => exact ⟨k + 1, by omega, by go_num, HS2, by simp⟩
        case measure => simp [intOf]; omega
      · have HS2 := Lib.hid (show cmpL l m = z by rw [HS.out, if_neg h0])
        have d0 : (z != 0) = true := by simp [h0]
        clear h0
        go_wp2_with fail
        refine (HC.out _).mono ?_
        rintro e w1 ⟨rfl, rfl⟩
        go_wp2
        go_ret
        exact ⟨by rw [HS2.out]; rfl, rfl⟩
    · obtain rfl : k = n := by omega
      have HS2 := Lib.hid (show cmpL l m = 0 by rw [HE.out, List.drop_of_length_le (Nat.le_of_eq HL.out), List.drop_of_length_le (Nat.le_of_eq HM.out)]; rfl)
      go_wp2
      go_ret
      exact ⟨by rw [HS2.out]; rfl, rfl⟩
/-- An edge's numbers. -/
def edL (x : EdD) : List Nat := [x.src, x.dst, x.wgt]
theorem cmpL_low (x y : EdD) : decide (cmpL (edL x) (edL y) < 0) = lowE x y := by
  unfold edL lowE cmpL cmpL cmpL cmpL cmpN
  rw [Bool.eq_iff_iff]
  simp only [Bool.or_eq_true, Bool.and_eq_true, decide_eq_true_eq]
  split <;> split <;> try split
  all_goals
    repeat' (first | omega | split)
    all_goals omega
end Go.Proofs.Yteaibgnelnblnaa
end
