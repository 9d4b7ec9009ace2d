/- Rows of bytes put together: slices.Grow from nil, slices.Concat. -/
import Derived.Test.YtgnghalcihoaaaaFitA
import Derived.Test.YtgnghalcihoaaaaCel
import Derived.Lib.AppendZerosOnto
namespace Go.Proofs.Ytgnghalcihoaaaa
open Go.RowKit Cr Me

set_option maxRecDepth 100000 in
set_option maxHeartbeats 1000000 in
theorem grow_any (n : Nat) (w : World) (hn : n ≤ 70368744177664) :
    Calls Try.prog 98 #[.slice none 0 0, .int .i64 (n : Int)] w fun e w' => ∃ v, e = .returned v ∧ w'.ownsRow w.heap.size 5 1 v 0 [] ∧ Below w.heap.size w w' := by
  obtain ⟨i0, hi0, hz0, hz1, hz2⟩ := info_parts u8_info
  by_cases h0 : n = 0
  · subst h0
    go_enter Try.func98, Try.ntmps98
    go_wp2
    go_ret
    exact ⟨_, rfl, World.ownsRow_nil _ _ _ _, Below.refl _ _⟩
  · have hpos : 0 < n := by omega
    have hold : (Builtin.firstCells i0.size 0 (.slice none 0 0)).run Try.prog w.drew = .ok ([] : List Value).toArray w.drew := run_firstCells_none w.drew i0.size 0 0 0
    have hrz : ∀ ty, (Builtin.append_ #[22, 3] ty #[.slice none 0 0, .int .i64 (n : Int)]).run Try.prog w = _ := fun ty =>
      Lib.run_append_grow_zeros w 22 3 ty 5 i0 (.int .u8 0) .i64 .i64 Try.underlying22 Try.underlying3 hi0 hz0 none 0 0 [] hold n hpos (by omega) (by omega) (by omega) (by rw [hz2]; omega)
        (by rw [hz2, Nat.zero_add]; exact growslice_fits hpos (by omega))
    rw [Nat.zero_add] at hrz
    obtain ⟨G, hG⟩ : ∃ G, G = grownCap w n 0 5 := ⟨_, rfl⟩
    have hGn : n ≤ G := by rw [hG]; exact grownCap_ge w _ _ _
    have hG63 : G ≤ 9223372036854775807 := by
      have := grownCap_le_maxLen w n 0 5 (by unfold maxLen; omega)
      rw [← hG] at this
      unfold maxLen at this
      omega
    rw [← hG] at hrz
    have HG := Lib.hid hG
    clear hG hold
    obtain ⟨C, hC⟩ : ∃ C : Array Value, C = (([] : List Value).toArray ++ Builtin.zeroCells (Value.int .u8 0).cells n ++ Builtin.zeroCells (Value.int .u8 0).cells (G - n)) := ⟨_, rfl⟩
    have hCs : C.size = G * 1 := by
      rw [hC]
      simp [Builtin.zeroCells, Value.cells]
      omega
    rw [← hC] at hrz
    clear hC
    have HO := Lib.hid (show (w.drew.alloc (.cells C 5)).ownsRow w.heap.size 5 1 (.slice (some ⟨w.heap.size, 0, none⟩) 0 G) 0 [] from World.ownsRow_made w.drew C G (Nat.le_refl _) (by unfold maxLen; omega) hCs)
    have HB := Lib.hid (show Below w.heap.size w (w.drew.alloc (.cells C 5)) from ((Below.refl _ _).drew).alloc (Nat.le_refl _) _)
    clear hCs hz0 hz1 hz2 hi0
    go_enter Try.func98, Try.ntmps98
    go_wp2_with (at_builtin; refine Lib.wpList_append_run _ rfl _ _ _ _ rfl _ _ rfl rfl _ _ (hrz _) ?_)
    go_ret
    exact ⟨_, rfl, HO.out, HB.out⟩

theorem flatten_take_le (ls : List (List UInt8)) (k : Nat) : (ls.take k).flatten.length ≤ ls.flatten.length := by
  conv => rhs; rw [← List.take_append_drop k ls, List.flatten_append, List.length_append]
  omega
set_option maxRecDepth 100000 in
set_option maxHeartbeats 1000000 in
theorem concat_any (L : Option Addr) (n c : Nat) (ls : List (List UInt8)) (w : World) (hl : ls.length = n) (hn : n ≤ 70368744177664) (hf : ls.flatten.length ≤ 70368744177664) (hp : Parts w w.heap.size L ls) :
    Calls Try.prog 81 #[.slice L n c] w (News w ls.flatten) := by
  obtain ⟨i0, hi0, hz0, hz1, hz2⟩ := info_parts u8_info
  have HL := Lib.hid hl
  have HP := Lib.hid hp
  have HF := Lib.hid hf
  clear hl hp hf
  go_enter Try.func81, Try.ntmps81
  go_wp2
  go_loop [3, 11] (fun x i => ∃ k : Nat, k ≤ n ∧ i = .int .i64 k ∧ ∃ s : Nat, s ≤ 70368744177664 ∧ Hid (s = (ls.take k).flatten.length) ∧ x = .int .i64 (s : Int)) (fun _ i => n - (intOf i).toNat)
  case atStart => exact ⟨0, Nat.zero_le _, rfl, 0, by omega, Lib.hid rfl, rfl⟩
  case round =>
    obtain ⟨k, hk, rfl, s, hs, HS, rfl⟩ := hrel
    by_cases hlt : k < n
    · have hlt' : k < ls.length := by rw [HL.out]; exact hlt
      obtain ⟨a, l, A, m, c2, rfl, hlk, -, hc, hm, hm63, hrd⟩ := HP.out.at hlt'
      obtain ⟨t, ht⟩ : ∃ t, t = s + m := ⟨_, rfl⟩
      have htk : t = (ls.take (k + 1)).flatten.length := by rw [flatten_snoc hlk, List.length_append, ← HS.out, hm, ht]
      have ht1 : t ≤ 70368744177664 := by rw [htk]; exact Nat.le_trans (flatten_take_le _ _) HF.out
      have hst : (s : Int) + (m : Int) = (t : Int) := by omega
      have hneg : decide ((t : Int) < 0) = false := by simp
      have HT := Lib.hid htk
      have hmt : m ≤ 70368744177664 := by omega
      clear hlk hm hrd htk ht hlt'
      go_wp2
      go_round
      case rel => exact ⟨k + 1, by omega, by go_num, t, ht1, HT, by go_num⟩
      case measure => simp [intOf]; omega
    · go_wp2_with fail
      refine (grow_any s w hs).mono ?_
      rintro e w1 ⟨v1, rfl, ho1, hb1⟩
      have HO1 := Lib.hid (show ∃ m, m ≤ 70368744177664 ∧ w1.ownsRow w.heap.size 5 1 v1 m (cellsOf (ls.take 0).flatten) ∧ Below w.heap.size w w1 from ⟨0, by omega, by simpa [cellsOf] using ho1, hb1⟩)
      clear ho1 hb1
      go_wp2
      go_loopw [6, 27] (fun v i wr => ∃ k : Nat, k ≤ n ∧ i = .int .i64 k ∧ Hid (∃ m, m ≤ 70368744177664 ∧ wr.ownsRow w.heap.size 5 1 v m (cellsOf (ls.take k).flatten) ∧ Below w.heap.size w wr)) (fun _ i _ => n - (intOf i).toNat)
      case atStart => exact ⟨0, Nat.zero_le _, rfl, HO1⟩
      case round =>
        clear HO1
        obtain ⟨j, hj, rfl, HJ⟩ := hrel
        obtain ⟨q, hq, hown, hbw⟩ := HJ.out
        have HW := Lib.hid hown
        have HB := Lib.hid hbw
        have hsz := hbw.size
        have hqn := hown.1
        rw [cellsOf_length] at hqn
        have HQ := Lib.hid hqn
        clear hown hbw HJ hqn
        by_cases hjlt : j < n
        · have hlt' : j < ls.length := by rw [HL.out]; exact hjlt
          obtain ⟨a, l, A, m, c2, rfl, hlk, -, hc, hm, hm63, hrd⟩ := (HP.out.below HB.out).at hlt'
          have hqm : q + m ≤ 70368744177664 := by
            have h1 : (ls.take (j + 1)).flatten.length = q + m := by rw [flatten_snoc hlk, List.length_append, HQ.out, hm, Nat.mul_one]
            have h2 := flatten_take_le ls (j + 1)
            have h3 := HF.out
            omega
          have HM := Lib.hid hm
          have HD := Lib.hid hrd
          have HK := Lib.hid hlk
          clear hlk hm hrd hlt'
          go_wp2_with (at_builtin
                       refine wpList_app rfl (.tmp 31) (.tmp 32) 22 rfl w.heap.size 5 i0 _ Try.underlying22 hi0 hz0 hz1 hz2 rfl u6 q _ rfl HW.out w.heap.size A m c2 l rfl HM.out HD.out (by omega) hsz ?_
                       intro v5 w5 hown5 hg5 hat5
                       have HREL := Lib.hid (show ∃ m, m ≤ 70368744177664 ∧ w5.ownsRow w.heap.size 5 1 v5 m (cellsOf (ls.take (j + 1)).flatten) ∧ Below w.heap.size w w5 from
                         ⟨q + m, hqm, by rw [flatten_snoc HK.out]; exact hown5, below_app HB.out HW.out (Nat.le_refl _) hsz hg5⟩)
                       clear hown5 hg5 hat5)
          go_roundw
          case rel => exact ⟨j + 1, by omega, by go_num, HREL⟩
          case measure => simp [intOf]; omega
        · have hw : wr.ownsRow w.heap.size 5 1 u6 q (cellsOf ls.flatten) := by
            have := HW.out
            rw [List.take_of_length_le (by rw [HL.out]; omega)] at this
            exact this
          have HWE := Lib.hid hw
          clear hw
          go_wp2
          go_ret
          exact ⟨u6, q, rfl, HWE.out, HB.out⟩
/-- Three slices in a row. -/
theorem parts_of3 {w : World} {B : Nat} {A A' A'' : Option Addr} {m c m' c' m'' c'' : Nat} {l l' l'' : List UInt8} (t : TypeId) (hl : l.length = m) (hm : m ≤ 9223372036854775807) (hl' : l'.length = m') (hm' : m' ≤ 9223372036854775807) (hl'' : l''.length = m'') (hm'' : m'' ≤ 9223372036854775807) (hB : B ≤ w.heap.size) (hr : Rd w B A l) (hr' : Rd w B A' l') (hr'' : Rd w B A'' l'') {H : Nat} (hH : w.heap.size = H) :
    Parts (w.alloc (.cells #[.slice A m c, .slice A' m' c', .slice A'' m'' c''] t)) (w.alloc (.cells #[.slice A m c, .slice A' m' c', .slice A'' m'' c''] t)).heap.size (some ⟨H, 0, none⟩) [l, l', l''] := fun _ => by
  subst hH
  have hh := heap_alloc_new w (.cells #[.slice A m c, .slice A' m' c', .slice A'' m'' c''] t)
  have e : ∀ i, (⟨w.heap.size, 0, none⟩ : Addr).add i = ⟨w.heap.size, i, none⟩ := fun i => by unfold Addr.add; split <;> simp_all
  refine ⟨_, rfl, by simp, fun i x hx => ?_⟩
  have hi : i < 3 := by
    have := (List.getElem?_eq_some_iff.1 hx).1
    simpa using this
  have h3 : i = 0 ∨ i = 1 ∨ i = 2 := by omega
  rw [e]
  rcases h3 with rfl | rfl | rfl
  · have hll : l = x := by simpa using hx
    subst hll
    exact ⟨A, m, c, by simp only [World.cell?, hh]; rfl, hl, hm, (hr.alloc hB _).more (by simp; omega)⟩
  · have hll : l' = x := by simpa using hx
    subst hll
    exact ⟨A', m', c', by simp only [World.cell?, hh]; rfl, hl', hm', (hr'.alloc hB _).more (by simp; omega)⟩
  · have hll : l'' = x := by simpa using hx
    subst hll
    exact ⟨A'', m'', c'', by simp only [World.cell?, hh]; rfl, hl'', hm'', (hr''.alloc hB _).more (by simp; omega)⟩
end Go.Proofs.Ytgnghalcihoaaaa
