/- Neighbours' bytes, the document's; the example; the same arcs. -/
import Derived.Test.YtegiplfgemdgdaaPutA
import Derived.Test.YtegiplfgemdgdaaRefMay
namespace Go.Proofs.Ytegiplfgemdgdaa
open Go.RowKit Me Va

/-- An arc's cells, in a later world. -/
theorem arc_again {w w' : World} {B k : Nat} {a : Addr} {l : List ArcD} {p : ArcD} (h : Arcs w B (some a) l) (hb : Below B w w') (hp : l[k]? = some p) :
    w'.cell? (a.add (k * 2)) = some (.int .u32 (p.to : Int)) ∧ w'.cell? ⟨(a.add (k * 2)).block, (a.add (k * 2)).off + 1, none⟩ = some (.int .u32 (p.weight : Int)) := by
  obtain ⟨a', p', e, hp', -, h0, h1, -, -⟩ := (h.below hb).at (k := k) (List.getElem?_eq_some_iff.1 hp).1
  injection e with e
  subst e
  rw [hp] at hp'
  injection hp' with hp'
  subst hp'
  exact ⟨h0, h1⟩
/-- What stands behind some rounds: the bytes so far. -/
def RefRel (w : World) (l : List ArcD) (k : Nat) (v : Value) (wr : World) : Prop :=
  ∃ m, m ≤ 10 + k * 20 ∧ wr.ownsRow w.heap.size 5 1 v m (cellsOf (enc l.length ++ encGaps 0 (l.take k))) ∧ Below w.heap.size w wr
theorem refrel_next {w wr : World} {l : List ArcD} {k q n1 n2 : Nat} {v : Value} {p : ArcD} {s g u : Nat} (hp : l[k]? = some p) (hs : s = leastOf (l.take k)) (hg : g = p.to - s) (hu : u = p.weight - 1) (h1 : n1 ≤ 10) (h2 : n2 ≤ 10) (hq : q ≤ 10 + k * 20)
    (ho : wr.ownsRow w.heap.size 5 1 v (q + n1 + n2) (cellsOf (enc l.length ++ encGaps 0 (l.take k) ++ enc g ++ enc u))) (hb : Below w.heap.size w wr) : RefRel w l (k + 1) v wr := by
  refine ⟨q + n1 + n2, by omega, ?_, hb⟩
  rw [encGaps_take hp, ← hs, ← hg, ← hu, ← List.append_assoc, ← List.append_assoc]
  exact ho
set_option maxHeartbeats 1000000 in
theorem refput_any (L : Option Addr) (m d : Nat) (l : List ArcD) (w : World) (hl : l.length = m) (hm : m ≤ 4294967296) (ha : Arcs w w.heap.size L l) (hri : rises 0 l = true) :
    Calls Try.prog 15 #[.slice L m d] w (News w (encArcs l)) := by
  obtain ⟨i0, hi0, hz0, hz1, hz2⟩ := info_parts u8_info
  have HL := Lib.hid hl
  have HA := Lib.hid ha
  have HRI := Lib.hid hri
  clear hl ha hri
  go_enter Try.func15, Try.ntmps15
  go_wp2_with fail
  refine (ref_num_any m w (by omega)).mono ?_
  rintro e w2 ⟨v, k, rfl, ho, hb2⟩
  have hk : k = (enc m).length := by have := ho.1; rw [cellsOf_length] at this; omega
  have hrel0 : RefRel w l 0 v w2 := by
    have := enc_ten (n := m) (by omega)
    refine ⟨k, by omega, ?_, hb2⟩
    rw [HL.out]
    simpa [encGaps] using ho
  have HREL := Lib.hid hrel0
  clear hrel0 ho hb2 hk
  go_wp2
  go_loopw [3, 12] (fun v i wr => ∃ k : Nat, k ≤ m ∧ i = .int .i64 k ∧ Hid (RefRel w l k v wr)) (fun _ i _ => m - (intOf i).toNat)
  case atStart => exact ⟨0, Nat.zero_le _, rfl, HREL⟩
  case round =>
    clear HREL
    obtain ⟨k, hk, rfl, HP⟩ := hrel
    obtain ⟨q, hq, hown, hbw⟩ := HP.out
    have HW := Lib.hid hown
    have HBW := Lib.hid hbw
    have hsz := hbw.size
    clear hown hbw HP
    by_cases hlt : k < m
    · have hlt' : k < l.length := by rw [HL.out]; exact hlt
      obtain ⟨a, p, rfl, hp, hab, h0, h1, h2, h3⟩ := (HA.out.below HBW.out).at hlt'
      have HP := Lib.hid hp
      obtain ⟨r1, r2⟩ := rises_at HRI.out hp
      obtain ⟨s, hs⟩ : ∃ s, s = leastOf (l.take k) := ⟨_, rfl⟩
      rw [← hs] at r1
      clear hp hlt'
      obtain ⟨g, hg⟩ : ∃ g, g = p.to - s := ⟨_, rfl⟩
      have hg1 : g < 18446744073709551616 := by omega
      have HG := Lib.hid hg
      obtain ⟨u, hu⟩ : ∃ u, u = p.weight - 1 := ⟨_, rfl⟩
      have huz : (p.weight : Int) - 1 = (u : Int) := by omega
      have hu1 : u < 18446744073709551616 := by omega
      have HU := Lib.hid hu
      have ht3 := enc_ten hg1
      have ht4 := enc_ten hu1
      clear hu
      have hway : (¬ 0 < k ∧ decide ((0 : Int) < (k : Int)) = false ∧ (p.to : Int) = (g : Int)) ∨
          (0 < k ∧ decide ((0 : Int) < (k : Int)) = true ∧ ∃ (j : Nat) (q' : ArcD), (k : Int) - 1 = (j : Int) ∧ j < m ∧ q'.to < p.to ∧ (p.to : Int) - (q'.to : Int) - 1 = (g : Int) ∧ q'.to < 4294967296 ∧ wr.cell? (a.add (j * 2)) = some (.int .u32 (q'.to : Int))) := by
        by_cases hk0 : k = 0
        · have hs0 : s = 0 := by rw [hs, hk0]; rfl
          exact .inl ⟨by omega, by simp; omega, by omega⟩
        · obtain ⟨j, hj⟩ : ∃ j, k = j + 1 := ⟨k - 1, by omega⟩
          have hjl : j < l.length := by rw [HL.out]; omega
          obtain ⟨a', q', e, hq', -, g0, -, g2, -⟩ := (HA.out.below HBW.out).at hjl
          injection e with e
          subst e
          have hle := least_prev hq'
          rw [← hj, ← hs] at hle
          exact .inr ⟨by omega, by simp; omega, j, q', by omega, by omega, by omega, by omega, g2, g0⟩
      have HS := Lib.hid hs
      clear hg hs
      rcases hway with ⟨hk1, d3, hgz⟩ | ⟨hk1, d3, j, q', hkj, hjm, hlt2, hgz, hq2, g0⟩
      all_goals
        go_wp2_with fail
        refine (ref_num_any g wr hg1).mono ?_
        rintro e w3 h
        obtain ⟨A3, n3, c3, rfl, hl3, hc3, -, hr3, hb3⟩ := h.open
        rw [hl3] at ht3
        have HL3 := Lib.hid hl3
        have HR3 := Lib.hid hr3
        have HN3 := Lib.hid (HBW.out.trans (hb3.mono hsz))
        have HW3 := Lib.hid (own_below HW.out hb3)
        clear hl3 hr3 hb3 h
        go_wp2_with (at_builtin
                     refine wpList_app rfl (.tmp 33) (.tmp 35) 22 rfl w.heap.size 5 i0 _ Try.underlying22 hi0 hz0 hz1 hz2 rfl u3 q _ rfl HW3.out w3.heap.size A3 n3 c3 _ rfl HL3.out HR3.out (by omega) HN3.out.size ?_
                     intro v5 w5 hown5 hg5 hat5
                     have HN5 := Lib.hid (below_app HN3.out HW3.out (Nat.le_refl _) HN3.out.size hg5)
                     have HW5 := Lib.hid hown5
                     obtain ⟨j0, j1⟩ := arc_again HA.out HN5.out (HP.out)
                     clear hown5 hg5 hat5 HW3 HN3)
        refine (ref_num_any u w5 hu1).mono ?_
        rintro e w6 h
        obtain ⟨A6, n6, c6, rfl, hl6, hc6, -, hr6, hb6⟩ := h.open
        rw [hl6] at ht4
        have HL6 := Lib.hid hl6
        have HR6 := Lib.hid hr6
        have HN6 := Lib.hid (HN5.out.trans (hb6.mono HN5.out.size))
        have HW6 := Lib.hid (own_below HW5.out hb6)
        clear hl6 hr6 hb6 h HW5 HN5
        go_wp2_with (at_builtin
                     refine wpList_app rfl (.tmp 37) (.tmp 45) 22 rfl w.heap.size 5 i0 _ Try.underlying22 hi0 hz0 hz1 hz2 rfl v5 (q + n3) _ rfl HW6.out w6.heap.size A6 n6 c6 _ rfl HL6.out HR6.out (by omega) HN6.out.size ?_
                     intro v7 w7 hown7 hg7 hat7
                     have HN7 := Lib.hid (below_app HN6.out HW6.out (Nat.le_refl _) HN6.out.size hg7)
                     have HREL := Lib.hid (refrel_next HP.out HS.out HG.out HU.out ht3 ht4 hq hown7 HN7.out)
                     clear hown7 hg7 hat7 HW6 HN6)
        go_roundw
        case rel => exact ⟨k + 1, by omega, by go_num, HREL⟩
        case measure => simp [intOf]; omega
    · have hw : wr.ownsRow w.heap.size 5 1 u3 q (cellsOf (encArcs l)) := by
        have := HW.out
        rw [List.take_of_length_le (by rw [HL.out]; omega)] at this
        exact this
      have HWE := Lib.hid hw
      clear hw
      go_wp2
      go_ret
      exact ⟨u3, q, rfl, HWE.out, HBW.out⟩
end Go.Proofs.Ytegiplfgemdgdaa
