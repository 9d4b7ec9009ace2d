/- The rows of keys, the document's: the walk. -/
import Derived.Test.YtniffijjdehnaaaMkS
import Derived.Test.YtniffijjdehnaaaSumA
namespace Go.Proofs.Ytniffijjdehnaaa
open Go.RowKit Me Tx Ed Mg Va

/-- Rows, or an error. -/
def KsPost (w : World) (q : List RowR × Int) (e : Ending) (w' : World) : Prop :=
  ∃ A n c, e = .returned (.tuple #[.slice A n c, .int .i64 q.2]) ∧ (rowM q.1).length = n ∧ n ≤ c ∧ c ≤ 9223372036854775807 ∧ RowsAt w' w.heap.size w'.heap.size A (rowM q.1) ∧ Below w.heap.size w w'
theorem ks_err {w W : World} {q : List RowR × Int} {z : Int} (hb : Below w.heap.size w W) (g : Nat) (hq : q = ([], z)) : KsPost w q (.returned (.tuple #[.slice (some ⟨g, 0, none⟩) 0 0, .int .i64 z])) W := by
  subst hq
  exact ⟨_, 0, 0, rfl, rfl, Nat.le_refl _, by omega, RowsAt.nil, hb⟩
/-- An edge's cells. -/
abbrev edB3 (x : EdD) : List Value := [.int .u32 (x.src : Int), .int .u32 (x.dst : Int), .int .u32 (x.wgt : Int)]
/-- The last row, where it is looked at. -/
theorem ks_last {rows : List RowR} (x : EdD) {w : World} {lo m : Nat} {L : Option Addr} (hl : (rowM rows).length = m) (h : RowsAt w lo w.heap.size L (rowM rows)) :
    ∃ (b : Addr) (s : Nat), (0 < m → L = some b ∧ ∀ W, Below w.heap.size w W → W.cell? (b.add ((m - 1) * 2)) = some (.int .u32 (s : Int))) ∧ (¬ (0 < m ∧ s = x.src) → hasR x rows = 0) ∧ (0 < m ∧ s = x.src → ∃ r l, rows = r :: l ∧ r.src = x.src) := by
  cases rows with
  | nil =>
    have hm : m = 0 := hl.symm
    exact ⟨⟨0, 0, none⟩, 0, fun h0 => by omega, fun _ => rfl, fun h0 => by omega⟩
  | cons r l =>
    have hm : m = l.length + 1 := by rw [← hl, rowM_length]; rfl
    obtain ⟨a, p, r1, e1, e2, e3, e4, -, -⟩ := h.at (k := m - 1) (by rw [hl]; omega)
    have e5 : r1.1 = r.src := by
      rw [rowM_cons] at e2
      have e : m - 1 = (rowM l).length := by rw [rowM_length]; omega
      rw [e, List.getElem?_append_right (Nat.le_refl _), Nat.sub_self] at e2
      injection e2 with e2
      rw [← e2]
    refine ⟨a, r.src, fun _ => ⟨e1, fun W hW => ?_⟩, fun h0 => ?_, fun h0 => ⟨r, l, rfl, h0.2⟩⟩
    · rw [← e5]; exact (hW.cell (by rw [block_add]; exact e3)).trans e4
    · rw [hasR, if_neg (fun e => h0 ⟨by omega, e⟩)]
/-- The last row's arcs. -/
theorem ks_arcs {r : RowR} {l : List RowR} {w : World} {lo m m1 : Nat} {b : Addr} (hm : m1 + 1 = m) (hl : (rowM (r :: l)).length = m) (h : RowsAt w lo w.heap.size (some b) (rowM (r :: l))) :
    ∃ (A2 : Option Addr) (n2 c2 : Nat), r.arcs.length = n2 ∧ ∀ W, Below w.heap.size w W → W.cell? ⟨(b.add (m1 * 2)).block, (b.add (m1 * 2)).off + 1, none⟩ = some (.slice A2 n2 c2) ∧ Arcs W W.heap.size A2 (arcM r.arcs) := by
  obtain ⟨a, p, r1, e1, e2, e3, -, e4, e5⟩ := h.at (k := m1) (by rw [hl]; omega)
  injection e1 with e1
  subst e1
  rw [rowM_cons] at e2
  have e : m1 = (rowM l).length := by rw [rowM_length] at hl ⊢; simp at hl; omega
  have e6 : r1 = (r.src, arcM r.arcs) := by
    rw [e, List.getElem?_append_right (Nat.le_refl _), Nat.sub_self] at e2
    injection e2 with e2
    exact e2.symm
  have e7 := e5.len
  have e8 := e5.arcs
  rw [e6] at e7 e8
  refine ⟨p.2.1, p.2.2.1, p.2.2.2, by rw [← e7]; exact (arcM_length _).symm, fun W hW => ⟨(hW.cell (by show (b.add (m1 * 2)).block < _; rw [block_add]; exact e3)).trans e4, (e8.below hW).more hW.size⟩⟩
/-- What is known of each slot where the last row is looked at. -/
def mkG (m cc Bx s xs : Nat) (q t : Bool) (L : Option Addr) (b : Addr) : Gw.Fact := fun k v _ =>
  match k with
  | 4 | 41 => v = .slice L m cc
  | 7 => v = .pointer (some ⟨Bx, 0, none⟩)
  | 42 => v = .int .i64 (m : Int)
  | 43 | 44 => v = .bool q
  | 45 | 46 => q = true → v = .slice L m cc
  | 47 => q = true → v = .int .i64 (m : Int)
  | 48 => q = true → v = .int .i64 ((m - 1 : Nat) : Int)
  | 49 | 50 => q = true → v = .pointer (some (b.add ((m - 1) * 2)))
  | 51 => q = true → v = .int .u32 (s : Int)
  | 52 => q = true → v = .pointer (some ⟨Bx, 0, none⟩)
  | 53 => q = true → v = .int .u32 (xs : Int)
  | 54 => q = true → v = .bool t
  | 55 => v = .bool (q && t)
  | _ => True
theorem ks_out3 (w : World) (b : Nat) (v0 v1 v2 : Value) : Out (fun k => k = b) w (((w.setCell ⟨b, 0, none⟩ v0).setCell ⟨b, 1, none⟩ v1).setCell ⟨b, 2, none⟩ v2) :=
  (((Out.refl (fun k => k = b) w).setCell (p := ⟨b, 0, none⟩) (.inl rfl) _).setCell (p := ⟨b, 1, none⟩) (.inl rfl) _).setCell (p := ⟨b, 2, none⟩) (.inl rfl) _
/-- What stands between the rounds. -/
structure KsI (w wr : World) (H n : Nat) (keys : List (List UInt8)) (k m cc : Nat) (L : Option Addr) (rows : List RowR) (last : Option EdD) : Prop where
  ok : KeysOk rows last k
  len : (rowM rows).length = m
  cap : m ≤ cc ∧ cc ≤ 9223372036854775807
  at_ : RowsAt wr (H + 2) wr.heap.size L (rowM rows)
  go : keysG [] none keys = keysG rows last (keys.drop k)
  box : Blk wr (H + 1) (edB3 (last.getD ⟨0, 0, 0⟩))
  low : Below w.heap.size w wr
set_option maxRecDepth 100000 in
set_option maxHeartbeats 4000000 in
theorem mkeys_any (A : Option Addr) (n c : Nat) (es : List Pc) (w : World) (hl : es.length = n) (hn : n ≤ 1000) (hr : BRows w w.heap.size A es) :
    Calls Try.prog 15 #[.slice A n c] w (KsPost w (keysG [] none (es.map (·.2)))) := by
  obtain ⟨H, hH⟩ : ∃ H, H = w.heap.size := ⟨_, rfl⟩
  obtain ⟨W0, hW0⟩ : ∃ W0, W0 = (w.alloc (.cells #[] 51)).alloc (.cells #[.int .u32 0, .int .u32 0, .int .u32 0] 24) := ⟨_, rfl⟩
  have HB0 := Lib.hid (show Below w.heap.size w W0 by rw [hW0]; exact ((Below.refl _ _).alloc (Nat.le_refl _) _).alloc (by simp) _)
  have HS0 := Lib.hid (show W0.heap.size = H + 2 by rw [hW0, hH]; simp)
  have BZ := Lib.hid (show Blk W0 (H + 1) [.int .u32 0, .int .u32 0, .int .u32 0] by rw [hW0, hH]; exact Blk.new' (w.alloc _) [.int .u32 0, .int .u32 0, .int .u32 0] _ (by simp))
  obtain ⟨keys, hkeys⟩ : ∃ keys, keys = es.map (·.2) := ⟨_, rfl⟩
  have HK := Lib.hid hkeys
  have HL := Lib.hid hl
  have HR := Lib.hid hr
  have HHE := Lib.hid hH
  have HW0 := Lib.hid hW0
  rw [← hkeys]
  clear hW0 hl hr hH hkeys
  go_enter Try.func15, Try.ntmps15
  go_upto_region 3 with fail
  rw [← HHE.out, ← HW0.out]
  go_wp2_with fail
  have HI0 := Lib.hid (show KsI w W0 H n keys 0 0 0 (some ⟨H, 0, none⟩) [] none from ⟨KeysOk.start, rfl, ⟨Nat.le_refl _, by omega⟩, RowsAt.nil, rfl, BZ.out, HB0.out⟩)
  go_loopw [4, 14] (fun v iv wr => ∃ (k m cc : Nat) (L : Option Addr) (rows : List RowR) (last : Option EdD), v = .slice L m cc ∧ iv = .int .i64 (k : Int) ∧ k ≤ n ∧ Hid (KsI w wr H n keys k m cc L rows last)) (fun _ iv _ => n - (intOf iv).toNat)
  case atStart => exact ⟨0, 0, 0, _, [], none, rfl, rfl, Nat.zero_le _, HI0⟩
  case round =>
    clear HI0
    obtain ⟨k, m, cc, L, rows, last, rfl, rfl, hk, HI⟩ := hrel
    by_cases hlt : k < n
    · obtain ⟨p, hp⟩ : ∃ p, es[k]? = some p := ⟨_, List.getElem?_eq_getElem (by rw [HL.out]; exact hlt)⟩
      obtain ⟨a, A1, n1, c1, rfl, hab, hcl, hn1, hc1, hc63, hrd⟩ := HR.out.at hp
      have cx : wr.cell? (a.add k) = some (.slice A1 n1 c1) := (HI.out.low.cell (by rw [block_add]; exact hab)).trans hcl
      have hlti : (k : Int) < (n : Int) := by omega
      have hk0 : (0 : Int) ≤ (k : Int) := by omega
      have HOF := Lib.hid (rof_any A1 n1 c1 p.2 wr hn1 hc1 hc63 ((hrd.below HI.out.low).more HI.out.low.size))
      have HDR := Lib.hid (show keys.drop k = p.2 :: keys.drop (k + 1) from by
        have hkl : k < keys.length := by rw [HK.out, List.length_map, HL.out]; exact hlt
        have hg : keys[k] = p.2 := by
          have h1 : keys[k]? = some p.2 := by rw [HK.out, List.getElem?_map, hp]; rfl
          rw [List.getElem?_eq_getElem hkl] at h1
          injection h1
        rw [List.drop_eq_getElem_cons hkl, hg])
      have HN1 := Lib.hid hn1
      clear hcl hrd hp hab hc1 hn1
      go_wp2_with fail
      refine HOF.out.mono ?_
      rintro e w3 ⟨hof, hb3⟩
      have HB3 := Lib.hid hb3
      clear HOF hb3
      by_cases h12 : n1 = 12
      · rw [if_pos h12] at hof
        subst hof
        obtain ⟨⟨xs, xd, xw⟩, hx⟩ : ∃ x, x = edB p.2 := ⟨_, rfl⟩
        have HX := Lib.hid hx
        rw [← hx]
        have hxf : FitE ⟨xs, xd, xw⟩ := by rw [hx]; exact edB_fit _
        have HXF := Lib.hid hxf
        clear hx hxf
        go_upto_region 7 with fail
        obtain ⟨w4, hw4⟩ : ∃ w4, w4 = w3.alloc (.cells #[.int .u32 (xs : Int), .int .u32 (xd : Int), .int .u32 (xw : Int)] 24) := ⟨_, rfl⟩
        obtain ⟨Bx, hBx⟩ : ∃ b, b = w3.heap.size := ⟨_, rfl⟩
        have hb34 : Below w3.heap.size w3 w4 := by rw [hw4]; exact (Below.refl _ _).alloc (Nat.le_refl _) _
        have hb4 : Below wr.heap.size wr w4 := HB3.out.trans (hb34.mono HB3.out.size)
        have HB4 := Lib.hid hb4
        have HW4 := Lib.hid (HI.out.low.trans (hb4.mono HI.out.low.size))
        have BX := Lib.hid (show Blk w4 Bx (edB3 ⟨xs, xd, xw⟩) by rw [hw4, hBx]; exact Blk.new w3 (edB3 ⟨xs, xd, xw⟩) _)
        have BLA := Lib.hid (HI.out.box.past hb4)
        rw [← hw4, ← hBx]
        have x0 : w4.cell? ⟨Bx, 0, none⟩ = some (.int .u32 (xs : Int)) := BX.out.cell rfl
        have x1 : w4.cell? ⟨Bx, 1, none⟩ = some (.int .u32 (xd : Int)) := BX.out.cell rfl
        have x2 : w4.cell? ⟨Bx, 2, none⟩ = some (.int .u32 (xw : Int)) := BX.out.cell rfl
        obtain ⟨⟨ys, yd, yw⟩, hy⟩ : ∃ y, y = last.getD ⟨0, 0, 0⟩ := ⟨_, rfl⟩
        have HY := Lib.hid hy
        rw [← hy] at BLA
        have l0 : w4.cell? ⟨H + 1, 0, none⟩ = some (.int .u32 (ys : Int)) := BLA.out.cell rfl
        have l1 : w4.cell? ⟨H + 1, 1, none⟩ = some (.int .u32 (yd : Int)) := BLA.out.cell rfl
        have l2 : w4.cell? ⟨H + 1, 2, none⟩ = some (.int .u32 (yw : Int)) := BLA.out.cell rfl
        have HBxH := Lib.hid (show w.heap.size ≤ Bx ∧ Bx ≠ H + 1 from by
          have h1 := HI.out.low.size
          have h2 := HB3.out.size
          have h3 := HI.out.box.lt
          omega)
        clear hw4 hBx hb34 hb4 hy HB3
        by_cases hw0 : xw = 0
        · have e0 : ((xw : Int) == 0) = true := by rw [hw0]; rfl
          have HE := Lib.hid (show keysG [] none keys = ([], 3) from by rw [HI.out.go, HDR.out, keysG, if_pos (.inr (by rw [← HX.out]; exact hw0))])
          have HB9 := Lib.hid (show Below w.heap.size w (w4.alloc (.cells #[] 51)) from HW4.out.alloc HW4.out.size _)
          go_wp2
          go_ret2
          exact ks_err HB9.out _ HE.out
        · have e0 : ((xw : Int) == 0) = false := by simp; omega
          have HG := Lib.hid (show keysG [] none keys = if under last ⟨xs, xd, xw⟩ then ([], 13) else if 2147483647 < hasR ⟨xs, xd, xw⟩ rows + xw then ([], 10) else keysG (addR ⟨xs, xd, xw⟩ rows) (some ⟨xs, xd, xw⟩) (keys.drop (k + 1)) from by
            rw [HI.out.go, HDR.out, keysG, ← HX.out, if_neg (fun h1 => h1.elim (fun h => h (HN1.out.trans h12)) hw0)])
          have HBE := Lib.hid (show ∀ W, Calls Try.prog 13 #[Ed.agg ⟨xs, xd, xw⟩, Ed.agg ⟨ys, yd, yw⟩] W fun e w' => e = .returned (.bool (lowE ⟨xs, xd, xw⟩ ⟨ys, yd, yw⟩)) ∧ Below W.heap.size W w' from fun W => rbelow_any _ _ W)
          clear hw0
          by_cases hkz : k = 0
          · have hkz2 : ¬ (0 : Int) < (k : Int) := by omega
            have HU := Lib.hid (show under last ⟨xs, xd, xw⟩ = false from by rw [HI.out.ok.none_.2 hkz]; rfl)
            obtain ⟨w5, hw5⟩ : ∃ w5, w5 = w4 := ⟨_, rfl⟩
            have HB5 := Lib.hid (show Below w4.heap.size w4 w5 by rw [hw5]; exact Below.refl _ _)
            go_upto_region 12 with fail
            rw [← hw5]
            clear hw5
            have HW5 := Lib.hid (HW4.out.trans (HB5.out.mono HW4.out.size))
            have BX5 := Lib.hid (BX.out.past HB5.out)
            have BL5 := Lib.hid (BLA.out.past HB5.out)
            have AT5 := Lib.hid ((HI.out.at_.past HB4.out).past HB5.out)
            have y0 : w5.cell? ⟨Bx, 0, none⟩ = some (.int .u32 (xs : Int)) := BX5.out.cell rfl
            have y1 : w5.cell? ⟨Bx, 1, none⟩ = some (.int .u32 (xd : Int)) := BX5.out.cell rfl
            have y2 : w5.cell? ⟨Bx, 2, none⟩ = some (.int .u32 (xw : Int)) := BX5.out.cell rfl
            obtain ⟨b, s, hb1, hb2, hb3⟩ := ks_last (⟨xs, xd, xw⟩ : EdD) HI.out.len AT5.out
            have HQ := Lib.hid hb1
            have HH2 := Lib.hid hb2
            have HH3 := Lib.hid hb3
            obtain ⟨q, hq⟩ : ∃ q, decide (0 < m) = q := ⟨_, rfl⟩
            have hqm : q = true ↔ 0 < m := by rw [← hq]; simp
            obtain ⟨t, ht⟩ : ∃ t, ((s : Int) == (xs : Int)) = t := ⟨_, rfl⟩
            have htm : t = true ↔ s = xs := by rw [← ht]; simp; omega
            obtain ⟨m1, hm1⟩ : ∃ z, z = m - 1 := ⟨_, rfl⟩
            have HMM := Lib.hid hm1
            have hm63 : m ≤ 1000 := by
              have h1 := HI.out.ok.few
              have h2 := HI.out.len
              rw [rowM_length] at h2
              omega
            clear hb1 hb2 hb3 hm1 hq
            refine Gw.wp_region_grow (mkG m cc Bx s xs q t L b) [41, 42, 43, 44, 45, 46, 47, 48, 49, 50, 51, 52, 53, 54, 55] [([4], none), ([41], none), ([42], none), ([43], none), ([4, 44], some (44, true)), ([4, 44], some (44, true)), ([46, 44], some (44, true)), ([47, 44], some (44, true)), ([45, 48, 44], some (44, true)), ([49, 44], some (44, true)), ([50, 44], some (44, true)), ([7, 44], some (44, true)), ([52, 44], some (44, true)), ([51, 53, 44], some (44, true)), ([44, 54], none)] 77 (by kernel_rfl) (by kernel_rfl) rfl ?h0 ?hreq ?hend
            case h0 =>
              intro t W hnd _
              unfold mkG
              split <;> first | rfl | trivial | exact absurd (by simp) hnd
            case hreq =>
              refine ⟨?_, ?_, ?_, ?_, ?_, ?_, ?_, ?_, ?_, ?_, ?_, ?_, ?_, ?_, ?_, trivial⟩
              all_goals
                intro ac W hg hk
                have z0 := (BX5.out.past hg).cell (i := 0) rfl
                simp only [Gw.Knows, mkG] at hk
                rcases Bool.eq_false_or_eq_true q with hq1 | hq1
                · obtain ⟨e1, e4⟩ := HQ.out (hqm.1 hq1)
                  have e6 := e4 W hg
                  rw [← HMM.out] at e6
                  have e0' := hqm.1 hq1
                  have e5 : (m : Int) - 1 = (m1 : Int) := by have := HMM.out; omega
                  have e8 : (m1 : Int) < (m : Int) := by omega
                  have e9 : m1 < m := by omega
                  have e10 : IntKind.i64.wrap (m1 : Int) = (m1 : Int) := IntWalk.i64_in _ (by omega)
                  have e11 : (0 : Int) < (m : Int) := by omega
                  simp [go_sem, Gw.OpReq, Gw.Ok, Gw.Post, Gw.Holds, mkG, Gw.Grows.refl, hk, hq1, ht, z0, e0', e1, e5, e6, e8, e9, e10, e11, ← HMM.out]
                  done
                · have e11 : ¬ (0 : Int) < (m : Int) := fun h => by
                    have h1 := hqm.2 (by omega)
                    rw [hq1] at h1
                    cases h1
                  have e12 : ¬ 0 < m := by omega
                  simp [go_sem, Gw.OpReq, Gw.Ok, Gw.Post, Gw.Holds, mkG, Gw.Grows.refl, hk, hq1, e11, e12]
                  done
            case hend =>
              intro y w6 hg hy
              have y55 : y 55 = .bool (q && t) := by have := (hy 55 (by simp)).now; simpa [mkG] using this
              simp only [Gw.putAll, Act.put, List.setIfInBounds_toArray, List.set_cons_zero, List.set_cons_succ]
              rw [y55]
              have hg' : Below w5.heap.size w5 w6 := hg
              have HW6 := Lib.hid (HW5.out.trans (hg'.mono HW5.out.size))
              have BX6 := Lib.hid (BX5.out.past hg')
              have BL6 := Lib.hid (BL5.out.past hg')
              have AT6 := Lib.hid (AT5.out.past hg')
              have z0 : w6.cell? ⟨Bx, 0, none⟩ = some (.int .u32 (xs : Int)) := BX6.out.cell rfl
              have z1 : w6.cell? ⟨Bx, 1, none⟩ = some (.int .u32 (xd : Int)) := BX6.out.cell rfl
              have z2 : w6.cell? ⟨Bx, 2, none⟩ = some (.int .u32 (xw : Int)) := BX6.out.cell rfl
              clear hg hy hg' y55 AT5 BX5 BL5 y0 y1 y2
              cases hqt : (q && t)
              · have HH0 := Lib.hid (show hasR ⟨xs, xd, xw⟩ rows = 0 from HH2.out (fun h => by rw [hqm.2 h.1, htm.2 h.2] at hqt; cases hqt))
                have hxw : xw < 4294967296 := HXF.out.2.2
                by_cases hov : (2147483647 : Int) < (xw : Int)
                · have HE := Lib.hid (show keysG [] none keys = ([], 10) from by rw [HG.out, HU.out, HH0.out, if_neg (by decide), if_pos (by omega)])
                  have HB9 := Lib.hid (show Below w.heap.size w (w6.alloc (.cells #[] 51)) from HW6.out.alloc HW6.out.size _)
                  go_wp2_with fail
                  go_ret2
                  exact ks_err HB9.out _ HE.out
                · have HG2 := Lib.hid (show keysG [] none keys = keysG (addR ⟨xs, xd, xw⟩ rows) (some ⟨xs, xd, xw⟩) (keys.drop (k + 1)) from by rw [HG.out, HU.out, HH0.out, if_neg (by decide), if_neg (by omega)])
                  have HWI := Lib.hid (mwith_any L m cc rows ⟨xs, xd, xw⟩ HXF.out w6 HI.out.len HI.out.cap.1 HI.out.ok (by omega) (by rw [HH0.out]; show 0 + xw ≤ _; omega) (lo := H + 2) (by have := BL6.out.lt; have := HI.out.low.size; have := HW6.out.size; have := HS0.out; have := HB0.out.size; omega) AT6.out)
                  go_wp2_with fail
                  refine HWI.out.mono ?_
                  rintro e w7 ⟨A7, n7, c7, rfl, hl7, hn7, hc7, hr7, hb7⟩
                  have BX7 := Lib.hid (BX6.out.past hb7)
                  have BL7 := Lib.hid (BL6.out.past hb7)
                  have q0 : w7.cell? ⟨Bx, 0, none⟩ = some (.int .u32 (xs : Int)) := BX7.out.cell rfl
                  have q1 : w7.cell? ⟨Bx, 1, none⟩ = some (.int .u32 (xd : Int)) := BX7.out.cell rfl
                  have q2 : w7.cell? ⟨Bx, 2, none⟩ = some (.int .u32 (xw : Int)) := BX7.out.cell rfl
                  have s0 : w7.cell? ⟨H + 1, 0, none⟩ = some (.int .u32 (ys : Int)) := BL7.out.cell rfl
                  have s1 : w7.cell? ⟨H + 1, 1, none⟩ = some (.int .u32 (yd : Int)) := BL7.out.cell rfl
                  have s2 : w7.cell? ⟨H + 1, 2, none⟩ = some (.int .u32 (yw : Int)) := BL7.out.cell rfl
                  have f0 := BL7.out.frozen 0
                  have f1 := BL7.out.frozen 1
                  have f2 := BL7.out.frozen 2
                  have HN := Lib.hid (show KsI w (((w7.setCell ⟨H + 1, 0, none⟩ (.int .u32 (xs : Int))).setCell ⟨H + 1, 1, none⟩ (.int .u32 (xd : Int))).setCell ⟨H + 1, 2, none⟩ (.int .u32 (xw : Int))) H n keys (k + 1) n7 c7 A7 (addR ⟨xs, xd, xw⟩ rows) (some ⟨xs, xd, xw⟩) from
                    ⟨HI.out.ok.next HXF.out (by rw [HH0.out]; show 0 + xw ≤ _; omega), hl7, ⟨hn7, hc7⟩, hr7.out (ks_out3 w7 (H + 1) _ _ _) (fun j hj => by omega), HG2.out, ((BL7.out.set 0 _).set 1 _).set 2 _, (((HW6.out.trans (hb7.mono HW6.out.size)).setCell (p := ⟨H + 1, 0, none⟩) (by show w.heap.size ≤ H + 1; rw [HHE.out]; omega) _).setCell (p := ⟨H + 1, 1, none⟩) (by show w.heap.size ≤ H + 1; rw [HHE.out]; omega) _).setCell (p := ⟨H + 1, 2, none⟩) (by show w.heap.size ≤ H + 1; rw [HHE.out]; omega) _⟩)
                  clear hl7 hr7 hb7 HWI
                  go_wp2_with fail
                  go_roundw
                  case rel => exact ⟨k + 1, n7, c7, A7, _, _, rfl, by first | go_num | (rw [hkz]; rfl), by omega, HN⟩
                  case measure => simp [intOf]; omega
              · exfalso
                have h1 : q = true := by cases q <;> simp_all
                have h2 := hqm.1 h1
                have h3 := HI.out.len
                rw [HI.out.ok.nil.2 hkz] at h3
                have h4 : m = 0 := h3.symm
                omega
          · have hkz2 : (0 : Int) < (k : Int) := by omega
            obtain ⟨y, hy1⟩ : ∃ y, last = some y := by
              cases hla : last with
              | none => exact absurd (HI.out.ok.none_.1 hla) hkz
              | some y => exact ⟨y, rfl⟩
            have HU := Lib.hid (show under last ⟨xs, xd, xw⟩ = lowE ⟨xs, xd, xw⟩ ⟨ys, yd, yw⟩ from by
              rw [HY.out, hy1]; rfl)
            clear hy1
            go_wp2_with fail
            refine (HBE.out _).mono ?_
            rintro e w5 ⟨rfl, hb5⟩
            have HB5 := Lib.hid hb5
            clear hb5
            cases hlow : lowE ⟨xs, xd, xw⟩ ⟨ys, yd, yw⟩
            · rw [hlow] at HU
              go_upto_region 12 with fail
              have HW5 := Lib.hid (HW4.out.trans (HB5.out.mono HW4.out.size))
              have BX5 := Lib.hid (BX.out.past HB5.out)
              have BL5 := Lib.hid (BLA.out.past HB5.out)
              have AT5 := Lib.hid ((HI.out.at_.past HB4.out).past HB5.out)
              have y0 : w5.cell? ⟨Bx, 0, none⟩ = some (.int .u32 (xs : Int)) := BX5.out.cell rfl
              have y1 : w5.cell? ⟨Bx, 1, none⟩ = some (.int .u32 (xd : Int)) := BX5.out.cell rfl
              have y2 : w5.cell? ⟨Bx, 2, none⟩ = some (.int .u32 (xw : Int)) := BX5.out.cell rfl
              obtain ⟨b, s, hb1, hb2, hb3⟩ := ks_last (⟨xs, xd, xw⟩ : EdD) HI.out.len AT5.out
              have HQ := Lib.hid hb1
              have HH2 := Lib.hid hb2
              have HH3 := Lib.hid hb3
              obtain ⟨q, hq⟩ : ∃ q, decide (0 < m) = q := ⟨_, rfl⟩
              have hqm : q = true ↔ 0 < m := by rw [← hq]; simp
              obtain ⟨t, ht⟩ : ∃ t, ((s : Int) == (xs : Int)) = t := ⟨_, rfl⟩
              have htm : t = true ↔ s = xs := by rw [← ht]; simp; omega
              obtain ⟨m1, hm1⟩ : ∃ z, z = m - 1 := ⟨_, rfl⟩
              have HMM := Lib.hid hm1
              have hm63 : m ≤ 1000 := by
                have h1 := HI.out.ok.few
                have h2 := HI.out.len
                rw [rowM_length] at h2
                omega
              clear hb1 hb2 hb3 hm1 hq
              refine Gw.wp_region_grow (mkG m cc Bx s xs q t L b) [41, 42, 43, 44, 45, 46, 47, 48, 49, 50, 51, 52, 53, 54, 55] [([4], none), ([41], none), ([42], none), ([43], none), ([4, 44], some (44, true)), ([4, 44], some (44, true)), ([46, 44], some (44, true)), ([47, 44], some (44, true)), ([45, 48, 44], some (44, true)), ([49, 44], some (44, true)), ([50, 44], some (44, true)), ([7, 44], some (44, true)), ([52, 44], some (44, true)), ([51, 53, 44], some (44, true)), ([44, 54], none)] 77 (by kernel_rfl) (by kernel_rfl) rfl ?h0 ?hreq ?hend
              case h0 =>
                intro t W hnd _
                unfold mkG
                split <;> first | rfl | trivial | exact absurd (by simp) hnd
              case hreq =>
                refine ⟨?_, ?_, ?_, ?_, ?_, ?_, ?_, ?_, ?_, ?_, ?_, ?_, ?_, ?_, ?_, trivial⟩
                all_goals
                  intro ac W hg hk
                  have z0 := (BX5.out.past hg).cell (i := 0) rfl
                  simp only [Gw.Knows, mkG] at hk
                  rcases Bool.eq_false_or_eq_true q with hq1 | hq1
                  · obtain ⟨e1, e4⟩ := HQ.out (hqm.1 hq1)
                    have e6 := e4 W hg
                    rw [← HMM.out] at e6
                    have e0' := hqm.1 hq1
                    have e5 : (m : Int) - 1 = (m1 : Int) := by have := HMM.out; omega
                    have e8 : (m1 : Int) < (m : Int) := by omega
                    have e9 : m1 < m := by omega
                    have e10 : IntKind.i64.wrap (m1 : Int) = (m1 : Int) := IntWalk.i64_in _ (by omega)
                    have e11 : (0 : Int) < (m : Int) := by omega
                    simp [go_sem, Gw.OpReq, Gw.Ok, Gw.Post, Gw.Holds, mkG, Gw.Grows.refl, hk, hq1, ht, z0, e0', e1, e5, e6, e8, e9, e10, e11, ← HMM.out]
                    done
                  · have e11 : ¬ (0 : Int) < (m : Int) := fun h => by
                      have h1 := hqm.2 (by omega)
                      rw [hq1] at h1
                      cases h1
                    have e12 : ¬ 0 < m := by omega
                    simp [go_sem, Gw.OpReq, Gw.Ok, Gw.Post, Gw.Holds, mkG, Gw.Grows.refl, hk, hq1, e11, e12]
                    done
              case hend =>
                intro y w6 hg hy
                have y55 : y 55 = .bool (q && t) := by have := (hy 55 (by simp)).now; simpa [mkG] using this
                simp only [Gw.putAll, Act.put, List.setIfInBounds_toArray, List.set_cons_zero, List.set_cons_succ]
                rw [y55]
                have hg' : Below w5.heap.size w5 w6 := hg
                have HW6 := Lib.hid (HW5.out.trans (hg'.mono HW5.out.size))
                have BX6 := Lib.hid (BX5.out.past hg')
                have BL6 := Lib.hid (BL5.out.past hg')
                have AT6 := Lib.hid (AT5.out.past hg')
                have z0 : w6.cell? ⟨Bx, 0, none⟩ = some (.int .u32 (xs : Int)) := BX6.out.cell rfl
                have z1 : w6.cell? ⟨Bx, 1, none⟩ = some (.int .u32 (xd : Int)) := BX6.out.cell rfl
                have z2 : w6.cell? ⟨Bx, 2, none⟩ = some (.int .u32 (xw : Int)) := BX6.out.cell rfl
                clear hg hy hg' y55 AT5 BX5 BL5 y0 y1 y2
                cases hqt : (q && t)
                · have HH0 := Lib.hid (show hasR ⟨xs, xd, xw⟩ rows = 0 from HH2.out (fun h => by rw [hqm.2 h.1, htm.2 h.2] at hqt; cases hqt))
                  have hxw : xw < 4294967296 := HXF.out.2.2
                  by_cases hov : (2147483647 : Int) < (xw : Int)
                  · have HE := Lib.hid (show keysG [] none keys = ([], 10) from by rw [HG.out, HU.out, HH0.out, if_neg (by decide), if_pos (by omega)])
                    have HB9 := Lib.hid (show Below w.heap.size w (w6.alloc (.cells #[] 51)) from HW6.out.alloc HW6.out.size _)
                    go_wp2_with fail
                    go_ret2
                    exact ks_err HB9.out _ HE.out
                  · have HG2 := Lib.hid (show keysG [] none keys = keysG (addR ⟨xs, xd, xw⟩ rows) (some ⟨xs, xd, xw⟩) (keys.drop (k + 1)) from by rw [HG.out, HU.out, HH0.out, if_neg (by decide), if_neg (by omega)])
                    have HWI := Lib.hid (mwith_any L m cc rows ⟨xs, xd, xw⟩ HXF.out w6 HI.out.len HI.out.cap.1 HI.out.ok (by omega) (by rw [HH0.out]; show 0 + xw ≤ _; omega) (lo := H + 2) (by have := BL6.out.lt; have := HI.out.low.size; have := HW6.out.size; have := HS0.out; have := HB0.out.size; omega) AT6.out)
                    go_wp2_with fail
                    refine HWI.out.mono ?_
                    rintro e w7 ⟨A7, n7, c7, rfl, hl7, hn7, hc7, hr7, hb7⟩
                    have BX7 := Lib.hid (BX6.out.past hb7)
                    have BL7 := Lib.hid (BL6.out.past hb7)
                    have q0 : w7.cell? ⟨Bx, 0, none⟩ = some (.int .u32 (xs : Int)) := BX7.out.cell rfl
                    have q1 : w7.cell? ⟨Bx, 1, none⟩ = some (.int .u32 (xd : Int)) := BX7.out.cell rfl
                    have q2 : w7.cell? ⟨Bx, 2, none⟩ = some (.int .u32 (xw : Int)) := BX7.out.cell rfl
                    have s0 : w7.cell? ⟨H + 1, 0, none⟩ = some (.int .u32 (ys : Int)) := BL7.out.cell rfl
                    have s1 : w7.cell? ⟨H + 1, 1, none⟩ = some (.int .u32 (yd : Int)) := BL7.out.cell rfl
                    have s2 : w7.cell? ⟨H + 1, 2, none⟩ = some (.int .u32 (yw : Int)) := BL7.out.cell rfl
                    have f0 := BL7.out.frozen 0
                    have f1 := BL7.out.frozen 1
                    have f2 := BL7.out.frozen 2
                    have HN := Lib.hid (show KsI w (((w7.setCell ⟨H + 1, 0, none⟩ (.int .u32 (xs : Int))).setCell ⟨H + 1, 1, none⟩ (.int .u32 (xd : Int))).setCell ⟨H + 1, 2, none⟩ (.int .u32 (xw : Int))) H n keys (k + 1) n7 c7 A7 (addR ⟨xs, xd, xw⟩ rows) (some ⟨xs, xd, xw⟩) from
                      ⟨HI.out.ok.next HXF.out (by rw [HH0.out]; show 0 + xw ≤ _; omega), hl7, ⟨hn7, hc7⟩, hr7.out (ks_out3 w7 (H + 1) _ _ _) (fun j hj => by omega), HG2.out, ((BL7.out.set 0 _).set 1 _).set 2 _, (((HW6.out.trans (hb7.mono HW6.out.size)).setCell (p := ⟨H + 1, 0, none⟩) (by show w.heap.size ≤ H + 1; rw [HHE.out]; omega) _).setCell (p := ⟨H + 1, 1, none⟩) (by show w.heap.size ≤ H + 1; rw [HHE.out]; omega) _).setCell (p := ⟨H + 1, 2, none⟩) (by show w.heap.size ≤ H + 1; rw [HHE.out]; omega) _⟩)
                    clear hl7 hr7 hb7 HWI
                    go_wp2_with fail
                    go_roundw
                    case rel => exact ⟨k + 1, n7, c7, A7, _, _, rfl, by first | go_num | (rw [hkz]; rfl), by omega, HN⟩
                    case measure => simp [intOf]; omega
                · have h1 : q = true := by cases q <;> simp_all
                  have h1t : t = true := by cases t <;> simp_all
                  have h2 := hqm.1 h1
                  obtain ⟨e1, -⟩ := HQ.out h2
                  subst e1
                  obtain ⟨r, l, hrl, hrs⟩ := HH3.out ⟨h2, htm.1 h1t⟩
                  subst hrl
                  obtain ⟨A2, n2, c2, ha1, ha2⟩ := ks_arcs (m1 := m1) (by have := HMM.out; omega) HI.out.len AT6.out
                  have HA2 := Lib.hid ha2
                  have k1 := (ha2 w6 (Below.refl _ _)).1
                  have e5 : (m : Int) - 1 = (m1 : Int) := by have := HMM.out; omega
                  have e8 : (m1 : Int) < (m : Int) := by have := HMM.out; omega
                  have e9 : m1 < m := by omega
                  have e10 : IntKind.i64.wrap (m1 : Int) = (m1 : Int) := IntWalk.i64_in _ (by omega)
                  have HSA := Lib.hid (HI.out.ok.sum r l rfl)
                  have HSM := Lib.hid (fun W hW => refsum_any A2 n2 c2 (arcM r.arcs) W (by rw [arcM_length]; exact ha1) (by have := (HI.out.ok.arcs r List.mem_cons_self).2; omega) (ha2 W hW).2)
                  have HHS := Lib.hid (show hasR ⟨xs, xd, xw⟩ (r :: l) = sumA r.arcs from by rw [hasR, if_pos hrs])
                  clear ha2
                  go_wp2_with fail
                  refine (HSM.out w6 (Below.refl _ _)).mono ?_
                  rintro e w6' ⟨rfl, rfl⟩
                  rw [sumOf_arcM]
                  have hS : sumA r.arcs ≤ 2147483647 := HSA.out
                  have hxw : xw < 4294967296 := HXF.out.2.2
                  by_cases hov : (2147483647 : Int) < ((sumA r.arcs : Nat) : Int) + (xw : Int)
                  · have HE := Lib.hid (show keysG [] none keys = ([], 10) from by rw [HG.out, HU.out, HHS.out, if_neg (by decide), if_pos (by show 2147483647 < sumA r.arcs + xw; omega)])
                    have HB9 := Lib.hid (show Below w.heap.size w (w6.alloc (.cells #[] 51)) from HW6.out.alloc HW6.out.size _)
                    go_wp2_with fail
                    go_ret2
                    exact ks_err HB9.out _ HE.out
                  · have HG2 := Lib.hid (show keysG [] none keys = keysG (addR ⟨xs, xd, xw⟩ (r :: l)) (some ⟨xs, xd, xw⟩) (keys.drop (k + 1)) from by rw [HG.out, HU.out, HHS.out, if_neg (by decide), if_neg (by show ¬ 2147483647 < sumA r.arcs + xw; omega)])
                    have HWI := Lib.hid (mwith_any (some b) m cc (r :: l) ⟨xs, xd, xw⟩ HXF.out w6 HI.out.len HI.out.cap.1 HI.out.ok (by omega) (by rw [HHS.out]; show sumA r.arcs + xw ≤ _; omega) (lo := H + 2) (by have := BL6.out.lt; have := HI.out.low.size; have := HW6.out.size; have := HS0.out; have := HB0.out.size; omega) AT6.out)
                    go_wp2_with fail
                    refine HWI.out.mono ?_
                    rintro e w7 ⟨A7, n7, c7, rfl, hl7, hn7, hc7, hr7, hb7⟩
                    have BX7 := Lib.hid (BX6.out.past hb7)
                    have BL7 := Lib.hid (BL6.out.past hb7)
                    have q0 : w7.cell? ⟨Bx, 0, none⟩ = some (.int .u32 (xs : Int)) := BX7.out.cell rfl
                    have q1 : w7.cell? ⟨Bx, 1, none⟩ = some (.int .u32 (xd : Int)) := BX7.out.cell rfl
                    have q2 : w7.cell? ⟨Bx, 2, none⟩ = some (.int .u32 (xw : Int)) := BX7.out.cell rfl
                    have s0 : w7.cell? ⟨H + 1, 0, none⟩ = some (.int .u32 (ys : Int)) := BL7.out.cell rfl
                    have s1 : w7.cell? ⟨H + 1, 1, none⟩ = some (.int .u32 (yd : Int)) := BL7.out.cell rfl
                    have s2 : w7.cell? ⟨H + 1, 2, none⟩ = some (.int .u32 (yw : Int)) := BL7.out.cell rfl
                    have f0 := BL7.out.frozen 0
                    have f1 := BL7.out.frozen 1
                    have f2 := BL7.out.frozen 2
                    have HN := Lib.hid (show KsI w (((w7.setCell ⟨H + 1, 0, none⟩ (.int .u32 (xs : Int))).setCell ⟨H + 1, 1, none⟩ (.int .u32 (xd : Int))).setCell ⟨H + 1, 2, none⟩ (.int .u32 (xw : Int))) H n keys (k + 1) n7 c7 A7 (addR ⟨xs, xd, xw⟩ (r :: l)) (some ⟨xs, xd, xw⟩) from
                      ⟨HI.out.ok.next HXF.out (by rw [HHS.out]; show sumA r.arcs + xw ≤ _; omega), hl7, ⟨hn7, hc7⟩, hr7.out (ks_out3 w7 (H + 1) _ _ _) (fun j hj => by omega), HG2.out, ((BL7.out.set 0 _).set 1 _).set 2 _, (((HW6.out.trans (hb7.mono HW6.out.size)).setCell (p := ⟨H + 1, 0, none⟩) (by show w.heap.size ≤ H + 1; rw [HHE.out]; omega) _).setCell (p := ⟨H + 1, 1, none⟩) (by show w.heap.size ≤ H + 1; rw [HHE.out]; omega) _).setCell (p := ⟨H + 1, 2, none⟩) (by show w.heap.size ≤ H + 1; rw [HHE.out]; omega) _⟩)
                    clear hl7 hr7 hb7 HWI
                    go_wp2_with fail
                    go_roundw
                    case rel => exact ⟨k + 1, n7, c7, A7, _, _, rfl, by first | go_num | (rw [hkz]; rfl), by omega, HN⟩
                    case measure => simp [intOf]; omega
            · have HE := Lib.hid (show keysG [] none keys = ([], 13) from by rw [HG.out, HU.out, hlow]; rfl)
              have HB9 := Lib.hid (show Below w.heap.size w (w5.alloc (.cells #[] 51)) from (HW4.out.trans (HB5.out.mono HW4.out.size)).alloc (by have := HW4.out.size; have := HB5.out.size; omega) _)
              go_wp2
              go_ret2
              exact ks_err HB9.out _ HE.out
      · rw [if_neg h12] at hof
        subst hof
        have HE := Lib.hid (show keysG [] none keys = ([], 3) from by rw [HI.out.go, HDR.out, keysG, if_pos (.inl (by rw [HN1.out]; exact h12))])
        have HB9 := Lib.hid (show Below w.heap.size w ((w3.alloc (.cells #[.int .u32 0, .int .u32 0, .int .u32 0] 24)).alloc (.cells #[] 51)) from ((HI.out.low.trans (HB3.out.mono HI.out.low.size)).alloc (by have := HI.out.low.size; have := HB3.out.size; omega) _).alloc (by rw [World.size_alloc]; have := HI.out.low.size; have := HB3.out.size; omega) _)
        go_wp2
        go_ret2
        exact ks_err HB9.out _ HE.out
    · have hkn : k = n := by omega
      subst hkn
      have hlti : ¬ (k : Int) < (k : Int) := by omega
      have HE := Lib.hid (show keysG [] none keys = (rows, 0) from by rw [HI.out.go, List.drop_eq_nil_of_le (by rw [HK.out, List.length_map, HL.out]; exact Nat.le_refl _)]; rfl)
      have FIN := Lib.hid (show KsPost w (keysG [] none keys) (.returned (.tuple #[.slice L m cc, .int .i64 0])) wr from by
        rw [HE.out]
        obtain ⟨vs, v1, v2, v3⟩ := HI.out.at_.ex
        exact ⟨L, m, cc, rfl, HI.out.len, HI.out.cap.1, HI.out.cap.2, ⟨⟨vs, v1, v2, fun i p r hp hr => { v3 i p r hp hr with low := fun a ha => by have := (v3 i p r hp hr).low a ha; have := HHE.out; omega }⟩, fun h0 a ha => by have := HI.out.at_.low h0 a ha; have := HHE.out; omega⟩, HI.out.low⟩)
      go_wp2
      go_ret2
      exact FIN.out
end Go.Proofs.Ytniffijjdehnaaa
