/- What is told of keys that are gone through, the document's: palmerref14.Told. -/
import Derived.Test.YtniffijjdehnaaaMkT
import Derived.Test.YtniffijjdehnaaaMmH
namespace Go.Proofs.Ytniffijjdehnaaa
open Go.RowKit Me Tx Ed Mg Va

theorem RowsAt.lower {w : World} {lo lo' B : Nat} {L : Option Addr} {l : List RwD} (h : RowsAt w lo B L l) (hlo : lo' ≤ lo) : RowsAt w lo' B L l := by
  obtain ⟨vs, h1, h2, h3⟩ := h.ex
  exact ⟨⟨vs, h1, h2, fun i p r hp hr => { h3 i p r hp hr with low := fun a e => Nat.le_trans hlo ((h3 i p r hp hr).low a e) }⟩, fun h0 a e => Nat.le_trans hlo (h.low h0 a e)⟩
theorem RowsAt.take {w : World} {lo B : Nat} {L : Option Addr} {l : List RwD} (h : RowsAt w lo B L l) (k : Nat) : RowsAt w lo B L (l.take k) := by
  obtain ⟨vs, h1, h2, h3⟩ := h.ex
  refine ⟨⟨vs.take k, fun hn => ?_, by rw [List.length_take, List.length_take, h2], fun i p r hp hr => ?_⟩, fun h0 a e => h.low (by rw [List.length_take] at h0; omega) a e⟩
  · rw [← rvCells_take] at hn ⊢
    obtain ⟨a, e, hb, hc⟩ := h1 (by rw [List.length_take] at hn; omega)
    refine ⟨a, e, hb, fun i v hv => hc i v ?_⟩
    rw [List.getElem?_take] at hv
    split at hv
    · exact hv
    · cases hv
  · rw [List.getElem?_take] at hp hr
    split at hp
    · rename_i hi
      rw [if_pos hi] at hr
      exact h3 i p r hp hr
    · cases hp
theorem BRows.take {w : World} {B : Nat} {A : Option Addr} {es : List Pc} (h : BRows w B A es) (k : Nat) : BRows w B A (es.take k) := by
  refine ⟨fun hn => ?_, fun p hp => h.all p (List.mem_of_mem_take hp)⟩
  rw [List.map_take] at hn ⊢
  obtain ⟨a, e, hb, hc⟩ := h.row (by rw [List.length_take] at hn; omega)
  refine ⟨a, e, hb, fun i v hv => hc i v ?_⟩
  rw [List.getElem?_take] at hv
  split at hv
  · exact hv
  · cases hv
theorem BRows.past {w w' : World} {A : Option Addr} {es : List Pc} (h : BRows w w.heap.size A es) (hb : Below w.heap.size w w') : BRows w' w'.heap.size A es :=
  ⟨(h.below hb).row.more hb.size, fun p hp => by
    obtain ⟨A', n', c', h1, h2, h3, h4, h5⟩ := (h.below hb).all p hp
    exact ⟨A', n', c', h1, h2, h3, h4, h5.more hb.size⟩⟩
/-- The rows that are told. -/
def toldR (keys : List (List UInt8)) : List RwD := if (goK [] none keys).2.2.2 = 0 then rowM (goK [] none keys).2.1 else rowM (goK [] none keys).2.1.tail
def TdPost (w : World) (keys : List (List UInt8)) (e : Ending) (w' : World) : Prop :=
  ∃ A n c, e = .returned (.tuple #[.slice A n c, .int .i64 (goK [] none keys).2.2.2]) ∧ (toldR keys).length = n ∧ n ≤ c ∧ c ≤ 9223372036854775807 ∧ RowsAt w' w.heap.size w'.heap.size A (toldR keys) ∧ Below w.heap.size w w'
theorem rowM_front (rows : List RowR) : (rowM rows).take ((rowM rows).length - 1) = rowM rows.tail := by
  cases rows with
  | nil => rfl
  | cons r l =>
    rw [rowM_cons, List.length_append]
    show List.take ((rowM l).length + 1 - 1) _ = rowM l
    rw [Nat.add_sub_cancel, List.take_append_of_le_length (Nat.le_refl _), List.take_length]
set_option maxRecDepth 100000 in
set_option maxHeartbeats 2000000 in
theorem mtold_any (A : Option Addr) (n c : Nat) (es : List Pc) (w : World) (hl : es.length = n) (hn : n ≤ 1000) (hnc : n ≤ c) (hc63 : c ≤ 9223372036854775807) (hr : BRows w w.heap.size A es) :
    Calls Try.prog 17 #[.slice A n c] w (TdPost w (es.map (·.2))) := by
  obtain ⟨keys, hkeys⟩ : ∃ keys, keys = es.map (·.2) := ⟨_, rfl⟩
  have HKL := Lib.hid (show keys.length = n by rw [hkeys, List.length_map, hl])
  have HR := Lib.hid hr
  have HL := Lib.hid hl
  have HC := Lib.hid (fun (m : Nat) (hm : m ≤ n) (W : World) (hW : Below w.heap.size w W) => show Calls Try.prog 15 #[.slice A m c] W (KsPost W (keysG [] none (keys.take m))) from by
    have := mkeys_any A m c (es.take m) W (by rw [List.length_take, hl]; omega) (by omega) ((hr.take m).past hW)
    rw [List.map_take, ← hkeys] at this
    exact this)
  rw [← hkeys]
  obtain ⟨g, hg⟩ : ∃ g, g = (goK [] none keys).1 := ⟨_, rfl⟩
  obtain ⟨rows, hrows⟩ : ∃ rows, rows = (goK [] none keys).2.1 := ⟨_, rfl⟩
  obtain ⟨z, hz⟩ : ∃ z, z = (goK [] none keys).2.2.2 := ⟨_, rfl⟩
  have HQ := Lib.hid (show keysG [] none keys = if z = 0 then (rows, 0) else ([], z) from by rw [hz, hrows]; exact keysG_go keys [] none)
  have HT := Lib.hid (show toldR keys = if z = 0 then rowM rows else rowM rows.tail from by unfold toldR; rw [← hz, ← hrows])
  have HZ := Lib.hid hz
  have HGL := Lib.hid (show g ≤ n ∧ (z = 0 ↔ g = n) from by
    have := goK_le keys [] none
    rw [← hg, ← hz, HKL.out] at this
    exact this)
  have HTK := Lib.hid (show ∀ m, m ≤ n → (m ≤ g → keysG [] none (keys.take m) = ((goK [] none (keys.take m)).2.1, 0)) ∧ (g < m → z ≠ 0 → keysG [] none (keys.take m) = ([], z)) ∧ (m = g → (goK [] none (keys.take m)).2.1 = rows) from fun m hm => by
    obtain ⟨h1, h2, h3⟩ := goK_take keys [] none m
    rw [← hg] at h1 h2 h3
    refine ⟨fun h => ?_, fun h h0 => ?_, fun h => ?_⟩
    · rw [keysG_go, if_pos (h1 h)]
    · rw [keysG_go, h2 h (by rw [HKL.out]; exact hm), ← hz, if_neg h0]
    · rw [h3 h, hrows])
  have HRE := Lib.hid (show rows = [] ↔ g = 0 from by
    refine ⟨fun h => ?_, fun h => ?_⟩
    · rcases Nat.eq_zero_or_pos g with h0 | h0
      · exact h0
      · exact absurd (by rw [← hrows]; exact h) (goK_rows keys [] none (.inr (by rw [← hg]; omega)))
    · have h3 := (goK_take keys [] none 0).2.2 (by rw [← hg]; exact h.symm)
      rw [hrows, ← h3]
      rfl)
  clear hl hr hkeys hg hrows hz
  go_enter Try.func17, Try.ntmps17
  go_wp2_with fail
  refine (HC.out n (Nat.le_refl _) w (Below.refl _ _)).mono ?_
  rintro e w1 ⟨A1, n1, c1, rfl, hl1, hc1, hm1, hr1, hb1⟩
  rw [List.take_of_length_le (Nat.le_of_eq HKL.out), HQ.out] at hl1 hr1
  rw [List.take_of_length_le (Nat.le_of_eq HKL.out), HQ.out]
  have HB1 := Lib.hid hb1
  by_cases hz0 : z = 0
  · rw [if_pos hz0] at hl1 hr1
    rw [if_pos hz0]
    have FIN := Lib.hid (show TdPost w keys (.returned (.tuple #[.slice A1 n1 c1, .int .i64 0])) w1 from ⟨A1, n1, c1, by rw [← HZ.out, hz0], by rw [HT.out, if_pos hz0]; exact hl1, hc1, hm1, by rw [HT.out, if_pos hz0]; exact hr1, hb1⟩)
    clear hl1 hr1 hb1
    go_wp2
    go_ret2
    exact FIN.out
  · rw [if_neg hz0] at hl1 hr1
    rw [if_neg hz0]
    have d0 : (z == 0) = false := by simp [hz0]
    have HZ0 := Lib.hid hz0
    clear hl1 hr1 hb1 hz0
    go_wp2_with fail
    go_loopw [6] (fun i wr => ∃ m : Nat, m ≤ n ∧ i = .int .i64 (m : Int) ∧ Hid (g < m ∨ (m = 0 ∧ rows = [])) ∧ Hid (Below w.heap.size w wr)) (fun i _ => (intOf i).toNat)
    case atStart => exact ⟨n, Nat.le_refl _, rfl, Lib.hid (.inl (by have := HGL.out; have := HZ0.out; omega)), HB1⟩
    case round =>
      obtain ⟨m, hm, rfl, HG, HB⟩ := hrel
      by_cases hm0 : 0 < m
      · obtain ⟨m1, rfl⟩ : ∃ m1, m = m1 + 1 := ⟨m - 1, by omega⟩
        have hm0' : (0 : Int) < ((m1 + 1 : Nat) : Int) := by omega
        have e1 : ((m1 + 1 : Nat) : Int) - 1 = (m1 : Int) := by omega
        have e2 : (m1 : Int) ≤ (c : Int) := by omega
        have e3 : (0 : Int) ≤ (m1 : Int) := by omega
        have HCM := Lib.hid (HC.out m1 (by omega) wr HB.out)
        go_wp2_with fail
        refine HCM.out.mono ?_
        rintro e w2 ⟨A2, n2, c2, rfl, hl2, hc2, hm2, hr2, hb2⟩
        have HB2 := Lib.hid (HB.out.trans (hb2.mono HB.out.size))
        obtain ⟨h1, h2, h3⟩ := HTK.out m1 (by omega)
        by_cases hg : g < m1
        · rw [h2 hg HZ0.out] at hl2 hr2
          rw [h2 hg HZ0.out]
          have HG2 := Lib.hid (show g < m1 ∨ (m1 = 0 ∧ rows = []) from .inl hg)
          clear hl2 hr2 hb2 h1 h2 h3 HCM hg
          go_wp2
          go_roundw
          case rel => exact ⟨m1, by omega, by go_num, HG2, HB2⟩
          case measure => simp [intOf]
        · have hgm : m1 = g := by
            rcases HG.out with h | ⟨h, -⟩
            · omega
            · omega
          rw [h1 (by omega), h3 hgm] at hl2 hr2
          rw [h1 (by omega), h3 hgm]
          by_cases hr0 : rows = []
          · have hn2 : n2 = 0 := by rw [← hl2, hr0]; rfl
            subst hn2
            have hm10 : m1 = 0 := by rw [hgm]; exact HRE.out.1 hr0
            have HG2 := Lib.hid (show g < m1 ∨ (m1 = 0 ∧ rows = []) from .inr ⟨hm10, hr0⟩)
            clear hl2 hr2 hb2 h1 h2 h3 HCM hg hgm hr0 hm10
            go_wp2
            go_roundw
            case rel => exact ⟨m1, by omega, by go_num, HG2, HB2⟩
            case measure => simp [intOf]
          · have hlen : (rowM rows).length ≠ 0 := fun e => hr0 (by
              rw [rowM_length] at e
              exact List.eq_nil_of_length_eq_zero e)
            obtain ⟨n3, rfl⟩ : ∃ n3, n2 = n3 + 1 := ⟨n2 - 1, by omega⟩
            have e4 : ((n3 + 1 : Nat) : Int) - 1 = (n3 : Int) := by omega
            have e5 : (n3 : Int) ≤ (c2 : Int) := by omega
            have e6 : (0 : Int) ≤ (n3 : Int) := by omega
            have e7 : (0 : Int) < ((n3 + 1 : Nat) : Int) := by omega
            have e8 : IntKind.i64.wrap (n3 : Int) = (n3 : Int) := IntWalk.i64_in _ (by omega)
            have FIN := Lib.hid (show TdPost w keys (.returned (.tuple #[.slice A2 n3 c2, .int .i64 z])) w2 from by
              refine ⟨A2, n3, c2, by rw [← HZ.out], ?_, by omega, hm2, ?_, HB2.out⟩
              · rw [HT.out, if_neg HZ0.out, rowM_length, List.length_tail]
                rw [rowM_length] at hl2
                omega
              · rw [HT.out, if_neg HZ0.out, ← rowM_front]
                exact (hr2.take _).lower HB.out.size)
            clear hl2 hr2 hb2 h1 h2 h3 HCM hg hgm hr0 hlen
            go_wp2
            go_ret2
            exact FIN.out
      · have hm00 : m = 0 := by omega
        subst hm00
        have FIN := Lib.hid (show TdPost w keys (.returned (.tuple #[.slice (some ⟨wr.heap.size, 0, none⟩) 0 0, .int .i64 z])) (wr.alloc (.cells #[] 51)) from by
          have hr0 : rows = [] := by
            rcases HG.out with h | ⟨-, h⟩
            · omega
            · exact h
          refine ⟨some ⟨wr.heap.size, 0, none⟩, 0, 0, by rw [← HZ.out], ?_, Nat.le_refl _, by omega, ?_, HB.out.alloc HB.out.size _⟩
          · rw [HT.out, if_neg HZ0.out, hr0]; rfl
          · rw [HT.out, if_neg HZ0.out, hr0]; exact RowsAt.nil)
        go_wp2
        go_ret2
        exact FIN.out
end Go.Proofs.Ytniffijjdehnaaa
