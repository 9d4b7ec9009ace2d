/- Bytes with their sum, the program's. -/
import Derived.Test.YtgnghalcihoaaaaAdd
namespace Go.Proofs.Ytgnghalcihoaaaa
open Go.RowKit Cr Me

theorem parts_one {w : World} {B : Nat} {A : Option Addr} {m c : Nat} {l : List UInt8} (t : TypeId) (hl : l.length = m) (hm : m ≤ 9223372036854775807) (hB : B ≤ w.heap.size) (hr : Rd w B A l) {H : Nat} (hH : w.heap.size = H) :
    Parts (w.alloc (.cells #[.slice A m c] t)) (w.alloc (.cells #[.slice A m c] t)).heap.size (some ⟨H, 0, none⟩) [l] := fun _ => by
  subst hH
  refine ⟨_, rfl, by simp, fun i l' hl' => ?_⟩
  have hi : i = 0 := by
    have := (List.getElem?_eq_some_iff.1 hl').1
    simpa using this
  subst hi
  have hll : l = l' := by simpa using hl'
  subst hll
  refine ⟨A, m, c, ?_, hl, hm, (hr.alloc hB _).more (by simp; omega)⟩
  have hh := heap_alloc_new w (.cells #[.slice A m c] t)
  have e : (⟨w.heap.size, 0, none⟩ : Addr).add 0 = ⟨w.heap.size, 0, none⟩ := by unfold Addr.add; simp
  rw [e]
  simp only [World.cell?, hh]
  rfl

theorem parts_three {w : World} {B : Nat} {A A' : Option Addr} {m c m' c' : Nat} {l l' : List UInt8} (t : TypeId) (hl : l.length = m) (hm : m ≤ 9223372036854775807) (hl' : l'.length = m') (hm' : m' ≤ 9223372036854775807) (hB : B ≤ w.heap.size) (hr : Rd w B A l) (hr' : Rd w B A' l') {H : Nat} (hH : w.heap.size = H) :
    Parts (w.alloc (.cells #[.slice A m c, .slice none 0 0, .slice A' m' c'] t)) (w.alloc (.cells #[.slice A m c, .slice none 0 0, .slice A' m' c'] t)).heap.size (some ⟨H, 0, none⟩) [l, [], l'] := fun _ => by
  subst hH
  have hh := heap_alloc_new w (.cells #[.slice A m c, .slice none 0 0, .slice A' m' c'] t)
  have e : ∀ i, (⟨w.heap.size, 0, none⟩ : Addr).add i = ⟨w.heap.size, i, none⟩ := fun i => by unfold Addr.add; split <;> simp_all
  refine ⟨_, rfl, by simp, fun i x hx => ?_⟩
  have hi : i < 3 := by
    have := (List.getElem?_eq_some_iff.1 hx).1
    simpa using this
  have h3 : i = 0 ∨ i = 1 ∨ i = 2 := by omega
  rw [e]
  rcases h3 with rfl | rfl | rfl
  · have hll : l = x := by simpa using hx
    subst hll
    exact ⟨A, m, c, by simp only [World.cell?, hh]; rfl, hl, hm, (hr.alloc hB _).more (by simp; omega)⟩
  · have hll : [] = x := by simpa using hx
    subst hll
    exact ⟨none, 0, 0, by simp only [World.cell?, hh]; rfl, rfl, by omega, Rd.empty⟩
  · have hll : l' = x := by simpa using hx
    subst hll
    exact ⟨A', m', c', by simp only [World.cell?, hh]; rfl, hl', hm', (hr'.alloc hB _).more (by simp; omega)⟩
theorem byte_of (r : Reg) (k : Nat) : ((r.toNat : Int) / (k : Int)) % 256 = ((UInt8.ofNat (r.toNat / k)).toNat : Int) := by
  rw [UInt8.toNat_ofNat']
  rfl
theorem lit_four (r : Reg) : (#[.int .u8 ((r.toNat : Int) % 256), .int .u8 ((r.toNat : Int) / 256 % 256), .int .u8 ((r.toNat : Int) / 65536 % 256), .int .u8 ((r.toNat : Int) / 16777216)] : Array Value).toList = cellsOf (four r) := by
  have h0 := byte_of r 1
  have h1 := byte_of r 256
  have h2 := byte_of r 65536
  have h3 := byte_of r 16777216
  have hr := r.isLt
  simp only [Nat.div_one] at h0
  have e0 : ((r.toNat : Int) / ((1 : Nat) : Int)) % 256 = (r.toNat : Int) % 256 := by omega
  have e3 : ((r.toNat : Int) / ((16777216 : Nat) : Int)) % 256 = (r.toNat : Int) / 16777216 := by omega
  rw [e0] at h0
  rw [e3] at h3
  simp only [cellsOf, four, List.map_cons, List.map_nil]
  rw [← h0, ← h3, ← h1, ← h2]
  rfl
set_option maxRecDepth 100000 in
set_option maxHeartbeats 400000 in
theorem mark_any (A : Option Addr) (n c : Nat) (l : List UInt8) (w : World) (hl : l.length = n) (hn : n ≤ 70368744177664) (hr : Rd w w.heap.size A l) :
    Calls Try.prog 82 #[.slice A n c] w fun e w' => ∃ v, e = .returned v ∧ w'.ownsRow w.heap.size 5 1 v (n + 4) (cellsOf (Cr.mark l)) ∧ Below w.heap.size w w' := by
  obtain ⟨i0, hi0, hz0, hz1, hz2⟩ := info_parts u8_info
  have hp := parts_one (c := c) 22 hl (by omega) (Nat.le_refl _) hr rfl
  have HL := Lib.hid hl
  have HR := Lib.hid hr
  have HP := Lib.hid hp
  clear hl hr hp
  go_enter Try.func82, Try.ntmps82
  go_wp2_with fail
  refine (sum_any _ 1 1 [l] _ rfl (by omega) HP.out).mono ?_
  rintro e w1 ⟨rfl, hb⟩
  have HB := Lib.hid ((((Below.refl _ _).alloc (Nat.le_refl _) _).trans (hb.mono (by simp))) : Below w.heap.size w w1)
  obtain ⟨r, hr⟩ : ∃ r, r = crc [l].flatten := ⟨_, rfl⟩
  rw [← hr]
  have HC := Lib.hid hr
  clear hr hb HP
  have hr1 := reg_lt r
  go_wp2_with (first
    | (refine wpList_make_own w1 rfl _ _ 22 rfl w.heap.size 5 i0 _ 1 Try.underlying22 hi0 hz0 hz1 .i64 .i64 ((n : Int) + 4) (n + 4) rfl rfl (by omega) (by rw [hz2]; omega) (by unfold maxLen; omega) HB.out.size ?_
       intro w2 hown1 hg1)
    | (at_builtin
       refine wpList_app rfl (.tmp 12) (.tmp 13) 22 rfl w.heap.size 5 i0 _ Try.underlying22 hi0 hz0 hz1 hz2 rfl (.slice (some ⟨w1.heap.size, 0, none⟩) 0 (n + 4)) 0 [] rfl hown1 w.heap.size A n c l rfl HL.out ((HR.out.below HB.out).grown hg1 HB.out.size (by simp)) (by omega) (Nat.le_trans HB.out.size hg1.size) ?_
       intro v2 w3 hown2 hg2 hat2
       have HB3 := Lib.hid (below_app (HB.out.grown hg1 HB.out.size (by simp)) hown1 (Nat.le_refl _) (Nat.le_trans HB.out.size hg1.size) hg2)
       have HW2 := Lib.hid hown2
       clear hat2 hg2 hown2)
    | (at_builtin
       refine wpList_app rfl (.tmp 15) (.tmp 27) 22 rfl w.heap.size 5 i0 _ Try.underlying22 hi0 hz0 hz1 hz2 rfl v2 (0 + n) ([] ++ l) rfl (HW2.out.alloc _) (w3.heap.size + 1) (some ⟨w3.heap.size, 0, none⟩) 4 4 (four r) rfl rfl (Rd.lit w3 _ _ _ (lit_four r)) (by omega) (by have := HB3.out.size; simp; omega) ?_
       intro v4 w4 hown4 hg4 hat4))
  have hr : r = crc l := by have := HC.out; simpa using this
  have hb4 := below_app (HB3.out.alloc HB3.out.size _) (HW2.out.alloc _) (Nat.le_refl _) (by have := HB3.out.size; simp; omega) hg4
  have HB4 := Lib.hid hb4
  have HW4 := Lib.hid hown4
  have HRR := Lib.hid hr
  clear hown4 hg4 hat4 hb4 hr
  go_ret
  refine ⟨v4, rfl, ?_, HB4.out⟩
  have := HW4.out
  rw [HRR.out] at this
  simpa [Cr.mark] using this

set_option maxRecDepth 100000 in
set_option maxHeartbeats 400000 in
theorem ref_four_any (r : Reg) (w : World) :
    Calls Try.prog 97 #[.int .u32 (r.toNat : Int)] w fun e w' => e = .returned (.slice (some ⟨w.heap.size, 0, none⟩) 4 4) ∧ Rd w' w'.heap.size (some ⟨w.heap.size, 0, none⟩) (four r) ∧ Below w.heap.size w w' := by
  have hr1 := reg_lt r
  go_enter Try.func97, Try.ntmps97
  go_wp2
  go_ret
  refine ⟨rfl, ?_, (Below.refl _ _).alloc (Nat.le_refl _) _⟩
  rw [World.size_alloc]
  refine Rd.lit w _ _ _ ?_
  rw [← lit_four]
end Go.Proofs.Ytgnghalcihoaaaa
