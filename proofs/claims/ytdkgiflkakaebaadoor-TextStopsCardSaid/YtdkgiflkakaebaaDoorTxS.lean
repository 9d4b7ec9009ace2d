/- The same texts twice are the same; the document's example. -/
import Derived.Test.YtdkgiflkakaebaaDoorTxN
namespace Go.Proofs.YtdkgiflkakaebaaDoor
open Go.RowKit Me Tx Go.Shelf Go.Lib

/-- What is known of each slot of the region that compares. -/
def smG (a1 a2 : Addr) (n c1 c2 k : Nat) (x : List UInt8) : Gw.Fact := fun s v _ =>
  match s with
  | 0 | 16 => v = .slice (some a1) n c1
  | 1 | 20 => v = .slice (some a2) n c2
  | 5 | 17 | 21 => v = .int .i64 (k : Int)
  | 18 => v = .pointer (some (a1.add k))
  | 22 => v = .pointer (some (a2.add k))
  | 19 | 23 => v = sv x
  | 24 => v = .bool false
  | _ => True
set_option maxRecDepth 100000 in
set_option maxHeartbeats 1000000 in
theorem rsame_any (A1 A2 : Option Addr) (n c1 c2 : Nat) (ls : List (List UInt8)) (hn : ls.length = n) (hn30 : n ≤ 1073741824) (hc1 : n ≤ c1) (hc2 : n ≤ c2) (w : World) (h1 : Cs w w.heap.size A1 (ls.map sv)) (h2 : Cs w w.heap.size A2 (ls.map sv)) :
    Calls Tryd.prog 12 #[.slice A1 n c1, .slice A2 n c2] w fun e w' => e = .returned (.bool true) ∧ Below w.heap.size w w' := by
  have H1 := Lib.hid h1
  have H2 := Lib.hid h2
  have HN := Lib.hid hn
  have HB := Lib.hid (Below.refl w.heap.size w)
  clear h1 h2 hn
  go_enter Tryd.func12, Tryd.ntmps12
  go_wp2
  go_loopw [13] (fun i wr => ∃ k : Nat, i = .int .i64 (k : Int) ∧ k ≤ n ∧ Hid (Below w.heap.size w wr)) (fun i _ => (n - intOf i).toNat)
  case atStart => exact ⟨0, rfl, Nat.zero_le _, HB⟩
  case round =>
    clear HB
    obtain ⟨k, rfl, hk, HB⟩ := hrel
    by_cases hkn : k < n
    · obtain ⟨x, hx⟩ : ∃ x, ls[k]? = some x := ⟨_, List.getElem?_eq_getElem (by rw [HN.out]; exact hkn)⟩
      have hx2 : (ls.map sv)[k]? = some (sv x) := by rw [List.getElem?_map, hx]; rfl
      have hlen : 0 < (ls.map sv).length := by rw [List.length_map, HN.out]; omega
      obtain ⟨a1, rfl, b1, q1⟩ := (H1.out.below HB.out) hlen
      obtain ⟨a2, rfl, b2, q2⟩ := (H2.out.below HB.out) hlen
      have y1 := q1 k _ hx2
      have y2 := q2 k _ hx2
      clear q1 q2 hx hx2 hlen b1 b2
      go_wp2_with fail
      refine Gw.wp_region_grow (smG a1 a2 n c1 c2 k x) [16, 17, 18, 19, 20, 21, 22, 23, 24] [([0], none), ([5], none), ([16, 17], none), ([18], none), ([1], none), ([5], none), ([20, 21], none), ([22], none), ([19, 23], none)] 26 (by kernel_rfl) (by kernel_rfl) rfl ?h0 ?hreq ?hend
      case h0 =>
        intro t W hnd _
        unfold smG
        split <;> first | rfl | trivial | exact absurd (by simp) hnd
      case hreq =>
        refine ⟨?_, ?_, ?_, ?_, ?_, ?_, ?_, ?_, ?_, trivial⟩
        all_goals
          intro ac W hg hk
          have z1 := (Below.cell (show Below wr.heap.size wr W from hg) (World.block_lt_of_cell? _ _ y1)).trans y1
          have z2 := (Below.cell (show Below wr.heap.size wr W from hg) (World.block_lt_of_cell? _ _ y2)).trans y2
          simp only [Gw.Knows, smG] at hk
          try (simp [go_sem, Gw.OpReq, Gw.Ok, Gw.Post, Gw.Holds, smG, Gw.Grows.refl, hk, z1, z2, hkn]; done)
      case hend =>
        intro x' w' hg hx
        have h24 := (hx 24 (by simp)).now
        simp only [smG] at h24
        have HB2 := Lib.hid (HB.out.trans (Below.mono (show Below wr.heap.size wr w' from hg) HB.out.size))
        clear hx hg y1 y2
        simp only [Gw.putAll, Act.put, List.setIfInBounds_toArray, List.set_cons_zero, List.set_cons_succ]
        rw [h24]
        have hw : wrap64 ((k : Int) + 1) = (k : Int) + 1 := by unfold wrap64; omega
        go_wp2
        go_roundw
        case rel => exact ⟨k + 1, by first | rfl | (congr 1), by omega, HB2⟩
        case measure => simp [intOf]; omega
    · go_wp2
      go_ret
      exact ⟨rfl, HB.out⟩

/-- What is known of each slot of the example's last line. -/
theorem awake_words : wordsG [] (⟨#[32, 97, 9, 98, 32]⟩ : ByteArray).data.toList = [[97], [98]] := by decide
theorem awake_num : numS (⟨#[48, 48, 55]⟩ : ByteArray).data.toList 10 = (0, 3) := by decide
set_option maxRecDepth 100000 in
theorem awake_any (w : World) (hE : ErrCell w) : Calls Tryd.prog 9 #[] w fun e w' => e = .returned (.bool true) ∧ Below w.heap.size w w' := by
  have HE := Lib.hid hE
  have HW := Lib.hid (words_any ⟨#[32, 97, 9, 98, 32]⟩ (by decide))
  clear hE
  go_enter Tryd.func9, Tryd.ntmps9
  go_wp2_with fail
  refine (HW.out w).mono ?_
  rw [awake_words]
  rintro e w1 ⟨A, c, rfl, hc, ho, hb1⟩
  have hcs := Cs.of_own ho
  obtain ⟨a, rfl, -, q⟩ := hcs (by simp)
  have y0 : w1.cell? (a.add 0) = some (.string ⟨#[97]⟩) := q 0 _ rfl
  have y1 : w1.cell? (a.add 1) = some (.string ⟨#[98]⟩) := q 1 _ rfl
  have HB1 := Lib.hid hb1
  have HY := Lib.hid (And.intro y0 y1)
  clear hcs q ho hb1 y0 y1
  go_wp2_with fail
  refine (num_any ⟨#[48, 48, 55]⟩ 10 (by decide) (by omega) w1 (HE.out.below HB1.out)).mono ?_
  rw [awake_num]
  rintro e w2 ⟨rfl, hb2⟩
  have z0 : w2.cell? (a.add 0) = some (.string ⟨#[97]⟩) := (hb2.cell (World.block_lt_of_cell? _ _ HY.out.1)).trans HY.out.1
  have z1 : w2.cell? (a.add 1) = some (.string ⟨#[98]⟩) := (hb2.cell (World.block_lt_of_cell? _ _ HY.out.2)).trans HY.out.2
  have HB2 := Lib.hid (HB1.out.trans (hb2.mono HB1.out.size))
  have e0 : a.add 0 = a := rfl
  have e1 : a.add 1 = ⟨a.block, a.off + 1, none⟩ := rfl
  rw [e0] at z0
  rw [e1] at z1
  clear hb2
  go_wp2
  go_ret
  exact ⟨rfl, HB2.out⟩
end Go.Proofs.YtdkgiflkakaebaaDoor
