/- A page's numbers as bytes, the program's. -/
import Derived.Test.YtledmlndlpmgdaaPg
import Derived.Test.YtledmlndlpmgdaaCel
namespace Go.Proofs.Ytledmlndlpmgdaa
open Go.RowKit Cr Me Pg

/-- The cells of some numbers. -/
def regs (rs : List Reg) : List Value := rs.map fun r => .int .u32 (r.toNat : Int)
theorem four_snoc {rs : List Reg} {k : Nat} {r : Reg} (h : rs[k]? = some r) : (rs.take (k + 1)).flatMap four = (rs.take k).flatMap four ++ four r := by
  rw [List.take_add_one, h, List.flatMap_append]
  simp
def EncRel (w : World) (rs : List Reg) (k : Nat) (v : Value) (wr : World) : Prop := wr.ownsRow w.heap.size 5 1 v (4 * k) (cellsOf ((rs.take k).flatMap four)) ∧ Below w.heap.size w wr
set_option maxRecDepth 100000 in
set_option maxHeartbeats 1000000 in
theorem encoded_any (L : Option Addr) (n c : Nat) (rs : List Reg) (w : World) (hl : rs.length = n) (hn : n ≤ 1000) (ha : Cs w w.heap.size L (regs rs)) :
    Calls Try.prog 13 #[.slice L n c] w (News w (rs.flatMap four)) := by
  obtain ⟨i0, hi0, hz0, hz1, hz2⟩ := info_parts u8_info
  have HL := Lib.hid hl
  have HA := Lib.hid ha
  have HREL := Lib.hid (show EncRel w rs 0 (.slice none 0 0) w from ⟨World.ownsRow_nil _ _ _ _, Below.refl _ _⟩)
  clear hl ha
  go_enter Try.func13, Try.ntmps13
  go_wp2
  go_loopw [3, 8] (fun v i wr => ∃ k : Nat, k ≤ n ∧ i = .int .i64 k ∧ Hid (EncRel w rs k v wr)) (fun _ i _ => n - (intOf i).toNat)
  case atStart => exact ⟨0, Nat.zero_le _, rfl, HREL⟩
  case round =>
    clear HREL
    obtain ⟨k, hk, rfl, HP⟩ := hrel
    obtain ⟨ho, hb⟩ := HP.out
    have HO := Lib.hid ho
    have HB := Lib.hid hb
    have hsz := hb.size
    clear ho hb HP
    by_cases hlt : k < n
    · have hlt' : k < rs.length := by rw [HL.out]; exact hlt
      obtain ⟨a, rfl, hab, hc⟩ := HA.out (by unfold regs; rw [List.length_map]; omega)
      obtain ⟨r, hr⟩ : ∃ r, rs[k]? = some r := ⟨_, List.getElem?_eq_getElem hlt'⟩
      have c0 := (HB.out.cell (p := a.add k) (by rw [block_add]; exact hab)).trans (hc k _ (by unfold regs; rw [List.getElem?_map, hr]; rfl))
      have HR := Lib.hid hr
      have hr1 := reg_lt r
      have q0 : (0 : Int) ≤ (k : Int) := by omega
      have q1 : (k : Int) < (n : Int) := by omega
      clear hr hc hlt'
      go_wp2_with (at_builtin
                   refine wpList_app rfl (.tmp 12) (.tmp 24) 23 rfl w.heap.size 5 i0 _ Try.underlying23 hi0 hz0 hz1 hz2 rfl _ (4 * k) _ rfl (HO.out.alloc _) (wr.heap.size + 1) (some ⟨wr.heap.size, 0, none⟩) 4 4 (four r) rfl rfl (Rd.lit wr _ _ _ (lit_four r)) (by omega) (by simp; omega) ?_
                   intro v5 w5 hown5 hg5 _
                   have HREL := Lib.hid (show EncRel w rs (k + 1) v5 w5 from ⟨by rw [four_snoc HR.out]; exact hown5, below_app (HB.out.alloc hsz _) (HO.out.alloc _) (Nat.le_refl _) (by simp; omega) hg5⟩)
                   clear hown5 hg5)
      go_roundw
      case rel => exact ⟨k + 1, by omega, by go_num, HREL⟩
      case measure => simp [intOf]; omega
    · have htk : rs.take k = rs := List.take_of_length_le (by rw [HL.out]; omega)
      rw [htk] at HO
      go_wp2
      go_ret
      exact ⟨_, _, rfl, HO.out, HB.out⟩
end Go.Proofs.Ytledmlndlpmgdaa
