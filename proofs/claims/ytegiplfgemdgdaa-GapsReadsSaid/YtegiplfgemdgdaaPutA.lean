/- Neighbours put behind bytes, the program's. -/
import Derived.Test.YtegiplfgemdgdaaSumA
namespace Go.Proofs.Ytegiplfgemdgdaa
open Go.RowKit Me Va

theorem new_two (w : World) (v v' : Value) (t : TypeId) : (w.alloc (.cells #[v, v'] t)).cell? ⟨w.heap.size, 0, none⟩ = some v ∧ (w.alloc (.cells #[v, v'] t)).cell? ⟨w.heap.size, 1, none⟩ = some v' := by
  have hh := heap_alloc_new w (.cells #[v, v'] t)
  exact ⟨by simp only [World.cell?, hh]; rfl, by simp only [World.cell?, hh]; rfl⟩
/-- A cell of another block than the one that is written. -/
theorem cell_past {w w' : World} {row : Option Nat} (hg : w.grownBy w' row) {b o : Nat} (hb : b < w.heap.size) (hne : row ≠ some b) : w'.cell? ⟨b, o, none⟩ = w.cell? ⟨b, o, none⟩ :=
  World.cell?_of_block (a := ⟨b, o, none⟩) (hg.block b hb (fun e => hne e.symm))
/-- What is owned lies ahead of the next block. -/
theorem own_ne {w : World} {base n size : Nat} {e : TypeId} {v : Value} {xs : List Value} (h : w.ownsRow base e size v n xs) : v.ownBlock ≠ some w.heap.size := fun he => by
  have := (h.lt _ he).2
  omega
/-- Bytes of one's own and an error's number are answered. -/
def PutPost (w : World) (l : List UInt8) (x : Int) (e : Ending) (w' : World) : Prop :=
  ∃ v n, e = .returned (.tuple #[v, .int .i64 x]) ∧ w'.ownsRow w.heap.size 5 1 v n (cellsOf l) ∧ Below w.heap.size w w'
theorem PutPost.open {w w' : World} {l : List UInt8} {x : Int} {e : Ending} (h : PutPost w l x e w') :
    ∃ A n c, e = .returned (.tuple #[.slice A n c, .int .i64 x]) ∧ l.length = n ∧ n ≤ c ∧ w'.ownsRow w.heap.size 5 1 (.slice A n c) n (cellsOf l) ∧ Rd w' w'.heap.size A l ∧ Below w.heap.size w w' := by
  obtain ⟨v, n, he, ho, hb⟩ := h
  obtain ⟨A, n', c, e2, h1, h2, h3, h4, h5⟩ := News.open (w := w) (w' := w') (l := l) (e := .returned v) ⟨v, n, rfl, ho, hb⟩
  injection e2 with e2
  subst e2
  exact ⟨A, n', c, he, h1, h2, h3, h4, h5⟩
theorem may_parts {l : List ArcD} (h : may l = true) : rises 0 l = true ∧ sumOf l ≤ 2147483647 := by
  unfold may at h
  simpa using h
theorem rises_at {l : List ArcD} {k : Nat} {p : ArcD} (h : rises 0 l = true) (hp : l[k]? = some p) : leastOf (l.take k) ≤ p.to ∧ 1 ≤ p.weight := by
  have h1 : rises 0 (l.take (k + 1)) = true := by
    cases hc : rises 0 (l.take (k + 1)) with
    | true => rfl
    | false => rw [rises_front hc] at h; cases h
  rw [rises_take hp] at h1
  simp at h1
  omega
/-- What stands behind some rounds: the bytes so far. -/
def PutsRel (w : World) (b : List UInt8) (l : List ArcD) (k : Nat) (v : Value) (wr : World) : Prop :=
  ∃ m, m ≤ b.length + 10 + k * 20 ∧ wr.ownsRow w.heap.size 5 1 v m (cellsOf (b ++ enc l.length ++ encGaps 0 (l.take k))) ∧ Below w.heap.size w wr
set_option maxHeartbeats 1000000 in
theorem puts_any (A : Option Addr) (n c : Nat) (b : List UInt8) (L : Option Addr) (m d : Nat) (l : List ArcD) (w : World) (hb : b.length = n) (hn : n ≤ 35184372088832) (hr : Rd w w.heap.size A b)
    (hl : l.length = m) (hm : m ≤ 4294967296) (ha : Arcs w w.heap.size L l) :
    Calls Try.prog 7 #[.slice A n c, .slice L m d] w (PutPost w (if may l = true then b ++ encArcs l else b) (if may l = true then 0 else 3)) := by
  obtain ⟨i0, hi0, hz0, hz1, hz2⟩ := info_parts u8_info
  have HB := Lib.hid hb
  have HR := Lib.hid hr
  have HL := Lib.hid hl
  have HA := Lib.hid ha
  clear hb hr hl ha
  cases hmay : may l with
  | false =>
    rw [if_neg (by decide), if_neg (by decide)]
    have HM := Lib.hid hmay
    clear hmay
    go_enter Try.func7, Try.ntmps7
    go_wp2_with fail
    refine (may_any L m d l w HL.out hm HA.out).mono ?_
    rw [HM.out]
    rintro e w1 ⟨rfl, hb1⟩
    have HB1 := Lib.hid hb1
    clear hb1
    go_wp2_with fail
    refine (clone_any A n c b w1 HB.out (by omega) ((HR.out.below HB1.out).more HB1.out.size)).mono ?_
    rintro e w2 ⟨v, k, rfl, ho, hb2⟩
    have HO := Lib.hid (own_more ho HB1.out.size)
    have HB2 := Lib.hid (HB1.out.trans (hb2.mono HB1.out.size))
    clear ho hb2
    go_wp2
    exact bodyPost_ret (v := .tuple #[v, .int .i64 3]) (by simp [results, Try.results7, go_sem]) rfl ⟨v, k, rfl, HO.out, HB2.out⟩
  | true =>
    rw [if_pos rfl, if_pos rfl]
    obtain ⟨hri, -⟩ := may_parts hmay
    have HM := Lib.hid hmay
    have HRI := Lib.hid hri
    clear hmay hri
    go_enter Try.func7, Try.ntmps7
    go_wp2_with fail
    refine (may_any L m d l w HL.out hm HA.out).mono ?_
    rw [HM.out]
    rintro e w1 ⟨rfl, hb1⟩
    have HB1 := Lib.hid hb1
    clear hb1
    go_wp2_with fail
    refine (put_any A n c m b w1 HB.out (by omega) ((HR.out.below HB1.out).more HB1.out.size) (by omega)).mono ?_
    rintro e w2 ⟨v, k, rfl, ho, hb2⟩
    have hk : k = (b ++ enc m).length := by have := ho.1; rw [cellsOf_length] at this; omega
    have hrel0 : PutsRel w b l 0 v w2 := by
      have := enc_ten (n := m) (by omega)
      refine ⟨k, by rw [hk, List.length_append]; omega, ?_, HB1.out.trans (hb2.mono HB1.out.size)⟩
      rw [HL.out]
      simpa [encGaps] using own_more ho HB1.out.size
    have HREL := Lib.hid hrel0
    clear hrel0 ho hb2 hk
    go_wp2
    go_loopw [6, 7, 23] (fun v x i wr => ∃ k : Nat, k ≤ m ∧ i = .int .i64 k ∧ (∃ s : Nat, s ≤ 4294967296 ∧ x = .int .u64 (s : Int) ∧ Hid (s = leastOf (l.take k))) ∧ Hid (PutsRel w b l k v wr)) (fun _ _ i _ => m - (intOf i).toNat)
    case atStart => exact ⟨0, Nat.zero_le _, rfl, ⟨0, by omega, rfl, Lib.hid rfl⟩, HREL⟩
    case round =>
      clear HREL
      obtain ⟨k, hk, rfl, ⟨s, hs, rfl, HE⟩, HP⟩ := hrel
      obtain ⟨q, hq, hown, hbw⟩ := HP.out
      rw [HB.out] at hq
      have HW := Lib.hid hown
      have HBW := Lib.hid hbw
      have hsz := hbw.size
      clear hown hbw HP
      by_cases hlt : k < m
      · have hlt' : k < l.length := by rw [HL.out]; exact hlt
        obtain ⟨a, p, rfl, hp, hab, h0, h1, h2, h3⟩ := (HA.out.below HBW.out).at hlt'
        have HP := Lib.hid hp
        obtain ⟨r1, r2⟩ := rises_at HRI.out hp
        rw [← HE.out] at r1
        clear hp hlt'
        obtain ⟨g, hg⟩ : ∃ g, g = p.to - s := ⟨_, rfl⟩
        have hgz : (p.to : Int) - (s : Int) = (g : Int) := by omega
        have hg1 : g < 18446744073709551616 := by omega
        have HG := Lib.hid hg
        obtain ⟨u, hu⟩ : ∃ u, u = p.weight - 1 := ⟨_, rfl⟩
        have huz : (p.weight : Int) - 1 = (u : Int) := by omega
        have hu1 : u < 18446744073709551616 := by omega
        have HU := Lib.hid hu
        clear hg hu
        obtain ⟨e0, e1⟩ := new_two wr (.int .u32 (p.to : Int)) (.int .u32 (p.weight : Int)) 49
        have HN := Lib.hid (show Below w.heap.size w (wr.alloc (.cells #[.int .u32 (p.to : Int), .int .u32 (p.weight : Int)] 49)) from HBW.out.alloc hsz _)
        have HWN := Lib.hid (HW.out.alloc (.cells #[.int .u32 (p.to : Int), .int .u32 (p.weight : Int)] 49))
        have hltn : wr.heap.size < (wr.alloc (.cells #[.int .u32 (p.to : Int), .int .u32 (p.weight : Int)] 49)).heap.size := by simp
        go_wp2_with fail
        refine (put_any none 0 0 g [] _ rfl (by omega) Rd.empty hg1).mono ?_
        rintro e w3 h
        obtain ⟨A3, n3, c3, rfl, hl3, hc3, -, hr3, hb3⟩ := h.open
        rw [List.nil_append] at hl3 hr3
        have q0 := (hb3.cell (p := ⟨wr.heap.size, 0, none⟩) hltn).trans e0
        have q1 := (hb3.cell (p := ⟨wr.heap.size, 1, none⟩) hltn).trans e1
        have ht3 := enc_ten hg1
        rw [hl3] at ht3
        have hlt3 : wr.heap.size < w3.heap.size := Nat.lt_of_lt_of_le hltn hb3.size
        have HL3 := Lib.hid hl3
        have HR3 := Lib.hid hr3
        have HN3 := Lib.hid (HN.out.trans (hb3.mono HN.out.size))
        have HW3 := Lib.hid (own_below HWN.out hb3)
        clear hl3 hr3 hb3 h e0 e1 hltn HWN HN
        go_wp2_with fail
        refine (put_any A3 n3 c3 u (enc g) w3 HL3.out (by omega) HR3.out hu1).mono ?_
        rintro e w4 h
        obtain ⟨A4, n4, c4, rfl, hl4, hc4, -, hr4, hb4⟩ := h.open
        have z0 := (hb4.cell (p := ⟨wr.heap.size, 0, none⟩) hlt3).trans q0
        have z1 := (hb4.cell (p := ⟨wr.heap.size, 1, none⟩) hlt3).trans q1
        have ht4 := enc_ten hu1
        have hn4 : n4 ≤ 20 := by rw [← hl4, List.length_append, HL3.out]; omega
        have hlt4 : wr.heap.size < w4.heap.size := Nat.lt_of_lt_of_le hlt3 hb4.size
        have HL4 := Lib.hid hl4
        have HR4 := Lib.hid hr4
        have HN4 := Lib.hid (HN3.out.trans (hb4.mono HN3.out.size))
        have HW4 := Lib.hid (own_below HW3.out hb4)
        clear hl4 hr4 hb4 h q0 q1 HN3 HW3
        go_wp2_with (at_builtin
                     refine wpList_app rfl (.tmp 33) (.tmp 39) 22 rfl w.heap.size 5 i0 _ Try.underlying22 hi0 hz0 hz1 hz2 rfl u6 q _ rfl HW4.out w4.heap.size A4 n4 c4 _ rfl HL4.out HR4.out (by omega) HN4.out.size ?_
                     intro v5 w5 hown5 hg5 hat5
                     have y0 := (cell_past (o := 0) hg5 hlt4 (own_ne HW.out)).trans z0
                     have y1 := (cell_past (o := 1) hg5 hlt4 (own_ne HW.out)).trans z1
                     have HN5 := Lib.hid (below_app HN4.out HW4.out (Nat.le_refl _) HN4.out.size hg5)
                     have HW5 := Lib.hid hown5
                     clear hown5 hg5 hat5 z0 z1 HN4 HW4)
        refine (behind_any p.to p.weight w5 h2).mono ?_
        rintro e w6 ⟨rfl, hb6⟩
        have HN6 := Lib.hid (HN5.out.trans (hb6.mono HN5.out.size))
        have HW6 := Lib.hid (own_below HW5.out hb6)
        clear hb6 HN5 HW5 y0 y1
        have hrel6 : PutsRel w b l (k + 1) v5 w6 := by
          refine ⟨q + n4, by rw [HB.out]; omega, ?_, HN6.out⟩
          rw [encGaps_take HP.out, ← HE.out, ← HG.out, ← HU.out, ← List.append_assoc]
          exact HW6.out
        have HREL := Lib.hid hrel6
        have HT := Lib.hid (leastOf_take HP.out)
        clear hrel6
        go_wp2
        go_roundw
        case rel => exact ⟨k + 1, by omega, by go_num, ⟨p.to + 1, by omega, by go_num, Lib.hid HT.out.symm⟩, HREL⟩
        case measure => simp [intOf]; omega
      · have hw : wr.ownsRow w.heap.size 5 1 u6 q (cellsOf (b ++ encArcs l)) := by
          have := HW.out
          rw [List.take_of_length_le (by rw [HL.out]; omega), List.append_assoc] at this
          exact this
        have HWE := Lib.hid hw
        clear hw
        go_wp2
        exact bodyPost_ret (v := .tuple #[u6, .int .i64 0]) (by simp [results, Try.results7, go_sem]) rfl ⟨u6, q, rfl, HWE.out, HBW.out⟩
end Go.Proofs.Ytegiplfgemdgdaa
