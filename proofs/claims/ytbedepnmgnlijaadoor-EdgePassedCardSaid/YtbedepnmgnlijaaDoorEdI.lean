/- palmerref12.Print: the document's lines of edges. -/
import Derived.Test.YtbedepnmgnlijaaDoorEdH
import Derived.Lib.ConvBytes
namespace Go.Proofs.YtbedepnmgnlijaaDoor
open Go.RowKit Me Tx Ed Go.Shelf Go.Lib

theorem rd_bytes' (w : World) (t : TypeId) (s : ByteArray) (y : List UInt8) (hy : s.data.toList = y) : Rd (Lib.bytesWorld w t s) (w.heap.size + 1) (some ⟨w.heap.size, 0, none⟩) y := fun _ => by
  refine ⟨_, rfl, Nat.lt_succ_self _, fun i u hu => ?_⟩
  have hi : i < s.size := by rw [← len_eq, hy]; exact (List.getElem?_eq_some_iff.1 hu).1
  have := Lib.bytesWorld_cell w t s i hi
  rw [hy] at this
  have e : y.getD i 0 = u := by rw [List.getD_eq_getElem?_getD, hu]; rfl
  rw [e] at this
  have e2 : (⟨w.heap.size, 0, none⟩ : Addr).add i = ⟨w.heap.size, i, none⟩ := by
    unfold Addr.add
    split
    · rename_i h; rw [h]
    · simp
  rw [e2]
  exact this
theorem line_str (e : EdD) (he : Fits e) (s : ByteArray) (hs : s.data.toList = lineS e ++ [10]) (w : World) :
    Calls Tryd.prog 18 #[Ed.agg e] w fun r w' => r = .returned (.string s) ∧ Below w.heap.size w w' := by
  have := line_any e he w
  rw [← hs, sv_data] at this
  exact this
set_option maxRecDepth 100000 in
set_option maxHeartbeats 1000000 in
theorem rprint_any (A : Option Addr) (n c : Nat) (l : List EdD) (hl : l.length = n) (hn : n ≤ 1000000) (w : World) (h : Eds w w.heap.size A l) :
    Calls Tryd.prog 16 #[.slice A n c] w (News w (printS l)) := by
  obtain ⟨i0, hi0, hz0, hz1, hz2⟩ := info_parts u8_info
  have HL := Lib.hid hl
  have HA := Lib.hid h
  have HI := Lib.hid (show PrI w (w.alloc (.cells #[] 5)) (.slice (some ⟨w.heap.size, 0, none⟩) 0 0) (printS (l.take 0)) from ⟨⟨0, rfl, own_empty w _ _ (Nat.le_refl _)⟩, (Below.refl _ w).alloc (Nat.le_refl _) _⟩)
  clear hl h
  go_enter Tryd.func16, Tryd.ntmps16
  go_wp2
  go_loopw [3, 8] (fun v i wr => ∃ k : Nat, i = .int .i64 (k : Int) ∧ k ≤ n ∧ Hid (PrI w wr v (printS (l.take k)))) (fun _ i _ => (n - intOf i).toNat)
  case atStart => exact ⟨0, rfl, Nat.zero_le _, HI⟩
  case round =>
    clear HI
    obtain ⟨k, rfl, hk, HI⟩ := hrel
    obtain ⟨m, hm, ho⟩ := HI.out.o
    obtain ⟨A1, c1, hv, hc1⟩ := own_slice' ho
    subst hv
    obtain ⟨t, ht⟩ : ∃ t, t = printS (l.take k) := ⟨_, rfl⟩
    have hlen : m ≤ 63 * k := by
      have := printS_length (es := l.take k) (fun e he => HA.out.2 e (List.mem_of_mem_take he))
      rw [← hm, List.length_take] at this
      omega
    rw [← ht] at ho hm
    have HO := Lib.hid ho
    have HM := Lib.hid hm
    have HTT := Lib.hid ht
    have HLE := Lib.hid hlen
    have HB := Lib.hid HI.out.b
    by_cases hkn : k < n
    · obtain ⟨a, p, rfl, hp, -, h0, h1, h2, hf⟩ := (HA.out.below HB.out).at (k := k) (by rw [HL.out]; exact hkn)
      obtain ⟨x0, x1, x2⟩ := p
      simp only at h0 h1 h2
      have HF := Lib.hid hf
      have HX := Lib.hid (show printS (l.take (k + 1)) = t ++ (lineS ⟨x0, x1, x2⟩ ++ [10]) by rw [ht]; exact take_print hp)
      obtain ⟨s, hs⟩ : ∃ s : ByteArray, s.data.toList = lineS ⟨x0, x1, x2⟩ ++ [10] := ⟨⟨(lineS ⟨x0, x1, x2⟩ ++ [10]).toArray⟩, rfl⟩
      obtain ⟨q, hq⟩ : ∃ q, s.size = q := ⟨_, rfl⟩
      have hyl : (lineS ⟨x0, x1, x2⟩ ++ [10]).length = q := by rw [← hs, len_eq, hq]
      have hq63 : q ≤ 63 := by
        have := lineS_length hf
        rw [List.length_append] at hyl
        simp at hyl; omega
      obtain ⟨y, hy⟩ : ∃ y, y = lineS ⟨x0, x1, x2⟩ ++ [10] := ⟨_, rfl⟩
      rw [← hy] at hyl
      have HS := Lib.hid hs
      have HY := Lib.hid hy
      have HYL := Lib.hid hyl
      have HQ := Lib.hid hq
      clear ht ho hm hlen hp hf HI hs hy hyl hq
      go_wp2_with fail
      refine (line_str ⟨x0, x1, x2⟩ HF.out s HS.out wr).mono ?_
      rintro e w2 ⟨rfl, hb2⟩
      have HB2 := Lib.hid (HB.out.trans (hb2.mono HB.out.size))
      have HO2 := Lib.hid (own_below' HO.out hb2)
      have e1 := Lib.run_convert_string_bytes (P := Tryd.prog) w2 9 32 5 s (u := .string) Tryd.underlying9 Tryd.underlying32 Tryd.underlying5
      have hb8 := Lib.bytesWorld_below w2 5 s
      have hr8 := rd_bytes' w2 5 s y (by rw [HS.out, HY.out])
      obtain ⟨cb, hcb⟩ : ∃ cb, grownCap w2 s.size 0 5 = cb := ⟨_, rfl⟩
      obtain ⟨Wb, hWb⟩ : ∃ Wb, Lib.bytesWorld w2 5 s = Wb := ⟨_, rfl⟩
      rw [hWb] at e1 hb8 hr8
      rw [hcb, HQ.out] at e1
      have HB8 := Lib.hid (HB2.out.trans (hb8.mono HB2.out.size))
      have HO8 := Lib.hid (own_below' HO2.out hb8)
      have HR8 := Lib.hid hr8
      have hm64 : m + q ≤ 140737488355328 := by have := HLE.out; omega
      have hbase := HB8.out.size
      clear hb8 hr8 hWb hcb hb2 HB HO HB2 HO2 hbase
      have hbase := HB8.out.size
      go_wp2_with (at_builtin
                   go_loud (refine wpList_app rfl (.tmp 11) (.tmp 17) 32 rfl w.heap.size 5 i0 _ Tryd.underlying32 hi0 hz0 hz1 hz2 rfl (.slice A1 m c1) m t rfl HO8.out (w2.heap.size + 1) (some ⟨w2.heap.size, 0, none⟩) q cb y rfl HYL.out HR8.out hm64 hbase ?_)
                   intro v3 w3 hown3 hg3 hat3
                   refine Classical.byContradiction fun hcontra => ?_)
      have hb3 : Below w.heap.size w w3 := HB8.out.grown hg3 HB8.out.size (fun g e => (HO8.out.lt g e).1)
      have HI3 := Lib.hid (show PrI w w3 v3 (printS (l.take (k + 1))) from ⟨⟨m + q, by rw [HX.out, ← HY.out, List.length_append, HYL.out, ← HM.out], by rw [HX.out, ← HY.out]; exact hown3⟩, hb3⟩)
      clear hown3 hg3 hat3 hb3 HO8 HB8 HR8 e1
      apply hcontra
      clear hcontra
      go_wp2
      go_roundw
      case rel => exact ⟨k + 1, by first | rfl | (congr 1), by omega, HI3⟩
      case measure => simp [intOf]; omega
    · have HN := Lib.hid (show News w (printS l) (.returned (.slice A1 m c1)) wr from by
        rw [List.take_of_length_le (by rw [HL.out]; omega)] at ht
        rw [ht] at ho
        exact ⟨_, m, rfl, ho, HB.out⟩)
      clear ht ho hm hlen HI HO
      go_wp2
      go_ret
      exact HN.out
end Go.Proofs.YtbedepnmgnlijaaDoor
