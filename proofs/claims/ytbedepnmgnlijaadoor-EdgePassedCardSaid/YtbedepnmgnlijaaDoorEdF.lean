/- edge.format, edge.Print: the lines of edges. -/
import Derived.Test.YtbedepnmgnlijaaDoorEdO
import Derived.Test.YtbedepnmgnlijaaDoorEdM
namespace Go.Proofs.YtbedepnmgnlijaaDoor
open Go.RowKit Me Tx Ed Go.Shelf Go.Lib

/-- A line so far. -/
def Ed.fmtL (a b c : Nat) : Nat → List UInt8
  | 0 => putN a
  | 1 => (putN a ++ [32]) ++ putN b
  | _ => (((putN a ++ [32]) ++ putN b) ++ [32]) ++ putN c
def Ed.fmtN (b c : Nat) : Nat → Nat
  | 0 => b
  | _ => c
theorem fmtL_next (a b c k : Nat) (hk : k < 2) : (fmtL a b c k ++ [32]) ++ putN (fmtN b c k) = fmtL a b c (k + 1) := by
  obtain rfl | rfl : k = 0 ∨ k = 1 := by omega
  all_goals rfl
theorem fmtL_line (e : EdD) : fmtL e.src e.dst e.wgt 2 = lineS e := by
  unfold lineS
  show (((putN e.src ++ [32]) ++ putN e.dst) ++ [32]) ++ putN e.wgt = _
  simp
theorem fmtL_length {a b c k : Nat} (ha : a < 18446744073709551616) (hb : b < 18446744073709551616) (hc : c < 18446744073709551616) : (fmtL a b c k).length ≤ 62 := by
  have h1 := putN_length ha
  have h2 := putN_length hb
  have h3 := putN_length hc
  match k with
  | 0 => show (putN a).length ≤ 62; omega
  | 1 => show ((putN a ++ [32]) ++ putN b).length ≤ 62; simp; omega
  | k + 2 => show ((((putN a ++ [32]) ++ putN b) ++ [32]) ++ putN c).length ≤ 62; simp; omega
/-- What stands between the rounds. -/
structure FmI (w wr : World) (v : Value) (l : List UInt8) (a b c : Nat) : Prop where
  o : ∃ n, n = l.length ∧ wr.ownsRow (w.heap.size + 1) 5 1 v n (cellsOf l)
  z : Blk wr w.heap.size [.int .u64 (a : Int), .int .u64 (b : Int), .int .u64 (c : Int)]
  b : Below w.heap.size w wr

set_option maxRecDepth 100000 in
set_option maxHeartbeats 1000000 in
theorem format_any (e : EdD) (he : Fits e) (w : World) (hT : Tab w) :
    Calls Tryd.prog 26 #[.agg #[.int .u64 (e.src : Int), .int .u64 (e.dst : Int), .int .u64 (e.wgt : Int)]] w (News w (lineS e ++ [10])) := by
  obtain ⟨i0, hi0, hz0, hz1, hz2⟩ := info_parts u8_info
  obtain ⟨a, b, c⟩ := e
  obtain ⟨ha, hb, hc⟩ := he
  simp only at ha hb hc
  obtain ⟨W0, hW0⟩ : ∃ W0, w.alloc (.cells #[.int .u64 (a : Int), .int .u64 (b : Int), .int .u64 (c : Int)] 51) = W0 := ⟨_, rfl⟩
  have z0 : Blk W0 w.heap.size [.int .u64 (a : Int), .int .u64 (b : Int), .int .u64 (c : Int)] := by rw [← hW0]; exact Blk.new w [.int .u64 (a : Int), .int .u64 (b : Int), .int .u64 (c : Int)] _
  have hb0 : Below w.heap.size w W0 := by rw [← hW0]; exact (Below.refl _ w).alloc (Nat.le_refl _) _
  have hs0 : W0.heap.size = w.heap.size + 1 := by rw [← hW0]; simp
  have HT := Lib.hid hT
  have HZ := Lib.hid (And.intro z0 (And.intro hb0 hs0))
  have HW0 := Lib.hid hW0
  have HF := Lib.hid (fmtL_line ⟨a, b, c⟩)
  have HA := Lib.hid (And.intro ha (And.intro hb hc))
  clear hT z0 hb0 hs0 hW0 ha hb hc
  go_enter Tryd.func26, Tryd.ntmps26
  go_wp2_with fail
  rw [HW0.out]
  refine (put_any' none 0 0 [] rfl (by omega) a (by have := HA.out; omega) W0 Rd.empty (HT.out.below HZ.out.2.1)).mono ?_
  rintro e1 w1 ⟨v1, m1, rfl, ho1, hb1⟩
  have HI := Lib.hid (show FmI w w1 v1 (fmtL a b c 0) a b c from by
    have hm : m1 = (putN a).length := by have := ho1.1; rw [cellsOf_length, Nat.mul_one] at this; exact this.symm
    exact ⟨⟨m1, hm, by rw [← HZ.out.2.2]; exact ho1⟩, HZ.out.1.past hb1, HZ.out.2.1.trans (hb1.mono HZ.out.2.1.size)⟩)
  clear ho1 hb1 HW0
  go_wp2
  go_loopw [3, 11] (fun v i wr => ∃ k : Nat, i = .int .i64 (k : Int) ∧ k ≤ 2 ∧ Hid (FmI w wr v (fmtL a b c k) a b c)) (fun _ i _ => (2 - intOf i).toNat)
  case atStart => exact ⟨0, rfl, Nat.zero_le _, HI⟩
  case round =>
    clear HI
    obtain ⟨k, rfl, hk, HI⟩ := hrel
    obtain ⟨m, hm, ho⟩ := HI.out.o
    obtain ⟨A1, c1, hv, hc1⟩ := own_slice' ho
    subst hv
    have hlen := fmtL_length (a := a) (b := b) (c := c) (k := k) (by have := HA.out; omega) (by have := HA.out; omega) (by have := HA.out; omega)
    have hm62 : m ≤ 62 := by omega
    obtain ⟨l, hl⟩ : ∃ l, l = fmtL a b c k := ⟨_, rfl⟩
    rw [← hl] at ho hm
    have HO := Lib.hid ho
    have HM := Lib.hid hm
    have HLL := Lib.hid hl
    by_cases hkn : k < 2
    · obtain ⟨x, hx⟩ : ∃ x, x = fmtN b c k := ⟨_, rfl⟩
      have hxs : x < 18446744073709551616 := by
        have := HA.out
        rw [hx]
        obtain rfl | rfl : k = 0 ∨ k = 1 := by omega
        · show b < _; omega
        · show c < _; omega
      have z1 : wr.cell? ⟨w.heap.size, 1 + k, none⟩ = some (.int .u64 (x : Int)) := by
        rw [hx]
        obtain rfl | rfl : k = 0 ∨ k = 1 := by omega
        · exact HI.out.z.cell (i := 1) rfl
        · exact HI.out.z.cell (i := 2) rfl
      have HX := Lib.hid (show (l ++ [32]) ++ putN x = fmtL a b c (k + 1) by rw [hl, hx]; exact fmtL_next a b c k hkn)
      have HXS := Lib.hid hxs
      have ew : wrap64 ((k : Int) + 1) = (k : Int) + 1 := by unfold wrap64; omega
      have k1 : (k : Int) < 2 := by omega
      have hbs := HI.out.b.size
      have hz3 := HI.out.z.lt
      have hbase : w.heap.size + 1 ≤ (wr.alloc (.cells #[.int .u8 32] 5)).heap.size := by simp; omega
      have hm64 : m + 1 ≤ 140737488355328 := by omega
      clear hl hx ho hm hlen hxs hkn hbs
      go_wp2_with (at_builtin
                   go_loud (refine wpList_app rfl (.tmp 15) (.tmp 16) 32 rfl (w.heap.size + 1) 5 i0 _ Tryd.underlying32 hi0 hz0 hz1 hz2 rfl (.slice A1 m c1) m l rfl (HO.out.alloc _) (wr.heap.size + 1) (some ⟨wr.heap.size, 0, none⟩) 1 1 [32] rfl rfl (Rd.lit wr #[.int .u8 32] _ [32] rfl) hm64 hbase ?_)
                   intro v3 w3 hown3 hg3 hat3
                   refine Classical.byContradiction fun hcontra => ?_)
      obtain ⟨A3, c3, hv3, hc3⟩ := own_slice' hown3
      subst hv3
      have hb3 : Below w.heap.size w w3 := (HI.out.b.alloc HI.out.b.size _).grown hg3 (HI.out.b.alloc HI.out.b.size _).size (fun g e => by have := (HO.out.lt g e).1; omega)
      have hbz : Blk w3 w.heap.size [.int .u64 (a : Int), .int .u64 (b : Int), .int .u64 (c : Int)] := (HI.out.z.alloc _).grown hg3 (fun e => by have := (HO.out.lt _ e).1; omega)
      have hr3 : Rd w3 w3.heap.size A3 (l ++ [32]) := Rd.of_own hown3
      have HB3 := Lib.hid (And.intro hb3 (And.intro hbz hr3))
      have hml : (l ++ [32]).length = m + 1 := by rw [List.length_append, ← HM.out]; rfl
      have HML := Lib.hid hml
      have HT3 := Lib.hid (HT.out.below hb3)
      clear hown3 hg3 hat3 hb3 hbz hr3 hml HI HO
      apply hcontra
      clear hcontra
      go_wp2_with fail
      refine (put_any' A3 (m + 1) c3 (l ++ [32]) HML.out (by omega) x HXS.out w3 HB3.out.2.2 HT3.out).mono ?_
      rintro e4 w4 ⟨v4, m4, rfl, ho4, hb4⟩
      have HI4 := Lib.hid (show FmI w w4 v4 (fmtL a b c (k + 1)) a b c from by
        rw [HX.out] at ho4
        have hm : m4 = (fmtL a b c (k + 1)).length := by have := ho4.1; rw [cellsOf_length, Nat.mul_one] at this; exact this.symm
        exact ⟨⟨m4, hm, own_more ho4 (HB3.out.2.1.lt)⟩, HB3.out.2.1.past hb4, HB3.out.1.trans (hb4.mono HB3.out.1.size)⟩)
      clear ho4 hb4
      go_wp2
      go_roundw
      case rel => exact ⟨k + 1, by first | rfl | (congr 1), by omega, HI4⟩
      case measure => simp [intOf]; omega
    · have hk2 : k = 2 := by omega
      subst hk2
      have hbs := HI.out.b.size
      have hz3 := HI.out.z.lt
      have hbase : w.heap.size + 1 ≤ (wr.alloc (.cells #[.int .u8 10] 5)).heap.size := by simp; omega
      have hm64 : m + 1 ≤ 140737488355328 := by omega
      have HLI := Lib.hid (show l = lineS ⟨a, b, c⟩ by rw [hl, HF.out])
      clear hl ho hm hlen hbs
      go_wp2_with (at_builtin
                   go_loud (refine wpList_app rfl (.tmp 21) (.tmp 22) 32 rfl (w.heap.size + 1) 5 i0 _ Tryd.underlying32 hi0 hz0 hz1 hz2 rfl (.slice A1 m c1) m l rfl (HO.out.alloc _) (wr.heap.size + 1) (some ⟨wr.heap.size, 0, none⟩) 1 1 [10] rfl rfl (Rd.lit wr #[.int .u8 10] _ [10] rfl) hm64 hbase ?_)
                   intro v3 w3 hown3 hg3 hat3
                   refine Classical.byContradiction fun hcontra => ?_)
      have hb3 : Below w.heap.size w w3 := (HI.out.b.alloc HI.out.b.size _).grown hg3 (HI.out.b.alloc HI.out.b.size _).size (fun g e => by have := (HO.out.lt g e).1; omega)
      have HN := Lib.hid (show News w (lineS ⟨a, b, c⟩ ++ [10]) (.returned v3) w3 from ⟨v3, _, rfl, own_more (by rw [← HLI.out]; exact hown3) (by omega), hb3⟩)
      clear hown3 hg3 hat3 hb3 HI HO
      apply hcontra
      clear hcontra
      go_wp2
      go_ret
      exact HN.out
end Go.Proofs.YtbedepnmgnlijaaDoor
