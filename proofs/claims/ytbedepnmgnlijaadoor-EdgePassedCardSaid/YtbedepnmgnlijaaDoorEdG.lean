/- edge.Print: the lines of edges. -/
import Derived.Test.YtbedepnmgnlijaaDoorEdF
namespace Go.Proofs.YtbedepnmgnlijaaDoor
open Go.RowKit Me Tx Ed Go.Shelf Go.Lib

theorem take_print {l : List EdD} {k : Nat} {p : EdD} (h : l[k]? = some p) : printS (l.take (k + 1)) = printS (l.take k) ++ (lineS p ++ [10]) := by
  rw [List.take_add_one, h]
  exact printS_snoc _ _
/-- What stands between the rounds: the text so far. -/
structure PrI (w wr : World) (v : Value) (l : List UInt8) : Prop where
  o : ∃ n, n = l.length ∧ wr.ownsRow w.heap.size 5 1 v n (cellsOf l)
  b : Below w.heap.size w wr
set_option maxRecDepth 100000 in
set_option maxHeartbeats 1000000 in
theorem print_any (A : Option Addr) (n c : Nat) (l : List EdD) (hl : l.length = n) (hn : n ≤ 1000000) (w : World) (h : Eds w w.heap.size A l) (hT : Tab w) :
    Calls Tryd.prog 15 #[.slice A n c] w (News w (printS l)) := by
  obtain ⟨i0, hi0, hz0, hz1, hz2⟩ := info_parts u8_info
  have HL := Lib.hid hl
  have HA := Lib.hid h
  have HT := Lib.hid hT
  have HI := Lib.hid (show PrI w w (.slice none 0 0) (printS (l.take 0)) from ⟨⟨0, rfl, World.ownsRow_nil _ _ _ _⟩, Below.refl _ _⟩)
  clear hl h hT
  go_enter Tryd.func15, Tryd.ntmps15
  go_wp2
  go_loopw [3, 8] (fun v i wr => ∃ k : Nat, i = .int .i64 (k : Int) ∧ k ≤ n ∧ Hid (PrI w wr v (printS (l.take k)))) (fun _ i _ => (n - intOf i).toNat)
  case atStart => exact ⟨0, rfl, Nat.zero_le _, HI⟩
  case round =>
    clear HI
    obtain ⟨k, rfl, hk, HI⟩ := hrel
    obtain ⟨m, hm, ho⟩ := HI.out.o
    obtain ⟨A1, c1, hv, hc1⟩ := own_slice' ho
    subst hv
    obtain ⟨t, ht⟩ : ∃ t, t = printS (l.take k) := ⟨_, rfl⟩
    have hlen : m ≤ 63 * k := by
      have := printS_length (es := l.take k) (fun e he => HA.out.2 e (List.mem_of_mem_take he))
      rw [← hm, List.length_take] at this
      omega
    rw [← ht] at ho hm
    have HO := Lib.hid ho
    have HM := Lib.hid hm
    have HTT := Lib.hid ht
    have HLE := Lib.hid hlen
    have HB := Lib.hid HI.out.b
    by_cases hkn : k < n
    · obtain ⟨a, p, rfl, hp, -, h0, h1, h2, hf⟩ := (HA.out.below HB.out).at (k := k) (by rw [HL.out]; exact hkn)
      obtain ⟨x0, x1, x2⟩ := p
      simp only at h0 h1 h2
      obtain ⟨W1, hW1⟩ : ∃ W1, wr.alloc (.cells #[.int .u32 (x0 : Int), .int .u32 (x1 : Int), .int .u32 (x2 : Int)] 25) = W1 := ⟨_, rfl⟩
      have hb1 : Below wr.heap.size wr W1 := by rw [← hW1]; exact (Below.refl _ wr).alloc (Nat.le_refl _) _
      have HB1 := Lib.hid (HB.out.trans (hb1.mono HB.out.size))
      have HO1 := Lib.hid (own_below' HO.out hb1)
      have HW1 := Lib.hid hW1
      have HF := Lib.hid hf
      have HX := Lib.hid (show printS (l.take (k + 1)) = t ++ (lineS ⟨x0, x1, x2⟩ ++ [10]) by rw [ht]; exact take_print hp)
      have hT1 := Lib.hid (HT.out.below HB1.out)
      have m0 : (x0 : Int) % 18446744073709551616 = (x0 : Int) := by have := hf.1; simp only at this; omega
      have m1 : (x1 : Int) % 18446744073709551616 = (x1 : Int) := by have := hf.2.1; simp only at this; omega
      have m2 : (x2 : Int) % 18446744073709551616 = (x2 : Int) := by have := hf.2.2; simp only at this; omega
      clear ht ho hm hlen hp hf hW1 hb1 HI
      go_wp2_with fail
      rw [HW1.out]
      refine (format_any ⟨x0, x1, x2⟩ HF.out W1 hT1.out).mono ?_
      clear m0 m1 m2
      intro e w2 h2
      obtain ⟨A2, n2, c2, rfl, hn2, hc2, -, hr2, hb2⟩ := h2.open
      have hn62 : n2 ≤ 63 := by
        have := lineS_length HF.out
        rw [List.length_append] at hn2
        simp at hn2; omega
      have HB2 := Lib.hid (HB1.out.trans (hb2.mono HB1.out.size))
      have HO2 := Lib.hid (own_below' HO1.out hb2)
      have HR2 := Lib.hid hr2
      have HN2 := Lib.hid hn2
      have hm64 : m + n2 ≤ 140737488355328 := by have := HLE.out; omega
      have hbase := HB2.out.size
      clear h2 hn2 hr2 hb2 HO HB HB1 HO1 hT1
      go_wp2_with (at_builtin
                   go_loud (refine wpList_app rfl (.tmp 12) (.tmp 23) 32 rfl w.heap.size 5 i0 _ Tryd.underlying32 hi0 hz0 hz1 hz2 rfl (.slice A1 m c1) m t rfl HO2.out w2.heap.size A2 n2 c2 (lineS ⟨x0, x1, x2⟩ ++ [10]) rfl HN2.out HR2.out hm64 hbase ?_)
                   intro v3 w3 hown3 hg3 hat3
                   refine Classical.byContradiction fun hcontra => ?_)
      have hb3 : Below w.heap.size w w3 := HB2.out.grown hg3 HB2.out.size (fun g e => (HO2.out.lt g e).1)
      have HI3 := Lib.hid (show PrI w w3 v3 (printS (l.take (k + 1))) from ⟨⟨m + n2, by rw [HX.out, List.length_append, HN2.out, ← HM.out], by rw [HX.out]; exact hown3⟩, hb3⟩)
      clear hown3 hg3 hat3 hb3 HO2 HB2 HR2
      apply hcontra
      clear hcontra
      go_wp2
      go_roundw
      case rel => exact ⟨k + 1, by first | rfl | (congr 1), by omega, HI3⟩
      case measure => simp [intOf]; omega
    · have HN := Lib.hid (show News w (printS l) (.returned (.slice A1 m c1)) wr from by
        rw [List.take_of_length_le (by rw [HL.out]; omega)] at ht
        rw [ht] at ho
        exact ⟨_, m, rfl, ho, HB.out⟩)
      clear ht ho hm hlen HI HO
      go_wp2
      go_ret
      exact HN.out
end Go.Proofs.YtbedepnmgnlijaaDoor
