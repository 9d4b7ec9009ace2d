/- An edge more in rows, the document's: of the last row's vertex. -/
import Derived.Test.YtniffijjdehnaaaMkW
import Derived.Test.YtniffijjdehnaaaAppRow
namespace Go.Proofs.Ytniffijjdehnaaa
open Go.RowKit Me Tx Ed Mg

theorem rowM_same {x : EdD} {r : RowR} {l : List RowR} (h : r.src = x.src) : rowM (addR x (r :: l)) = rowM l ++ [(r.src, arcM (addA x r.arcs))] := by
  rw [addR, if_pos h, rowM_cons]
theorem arcM_same {x : EdD} {a : ArcR} {A : List ArcR} (h : a.dst = x.dst) : arcM (addA x (a :: A)) = arcM A ++ [(⟨a.dst, a.wgt + x.wgt⟩ : ArcD)] := by
  rw [addA, if_pos h, arcM_cons]
theorem arcM_new {x : EdD} {a : ArcR} {A : List ArcR} (h : a.dst ≠ x.dst) : arcM (addA x (a :: A)) = arcM (a :: A) ++ [(⟨x.dst, x.wgt⟩ : ArcD)] := by
  rw [addA, if_neg h, arcM_cons (⟨x.dst, x.wgt⟩ : ArcR)]
/-- What is known of each slot where the last arc is looked at. -/
def mvG (H g m m2 d7 t dst : Nat) (q : Bool) : Gw.Fact := fun k v _ =>
  match k with
  | 7 | 49 | 50 => v = .slice (some ⟨g, 0, none⟩) m d7
  | 3 => v = .pointer (some ⟨H, 0, none⟩)
  | 51 => v = .int .i64 (m : Int)
  | 52 => v = .int .i64 (m2 : Int)
  | 53 | 54 => v = .pointer (some ⟨g, m2 * 2, none⟩)
  | 55 => v = .int .u32 (t : Int)
  | 56 => v = .pointer (some ⟨H, 1, none⟩)
  | 57 => v = .int .u32 (dst : Int)
  | 58 => v = .bool q
  | _ => True
/-- What is known of each slot where the last arc is given more. -/
def mvH (H g m m2 d7 t wgt u : Nat) : Gw.Fact := fun k v _ =>
  match k with
  | 7 | 59 | 60 | 63 | 64 => v = .slice (some ⟨g, 0, none⟩) m d7
  | 3 => v = .pointer (some ⟨H, 0, none⟩)
  | 61 | 65 => v = .int .i64 (m : Int)
  | 62 | 66 => v = .int .i64 (m2 : Int)
  | 67 | 73 => v = .pointer (some ⟨g, m2 * 2, none⟩)
  | 68 | 74 => v = .pointer (some ⟨g, m2 * 2 + 1, none⟩)
  | 69 => v = .int .u32 (t : Int)
  | 70 => v = .pointer (some ⟨H, 2, none⟩)
  | 71 => v = .int .u32 (wgt : Int)
  | 72 => v = .int .u32 (u : Int)
  | _ => True
set_option maxRecDepth 100000 in
set_option maxHeartbeats 4000000 in
theorem mwith_same (L : Option Addr) (n c : Nat) (r : RowR) (l0 : List RowR) (a0 : ArcR) (A0 : List ArcR) (hra : r.arcs = a0 :: A0) (x : EdD) (hx : FitE x) (w : World) (hl : (rowM (r :: l0)).length = n) (hn : n ≤ 100000) (hcap : n ≤ c) (hm : r.arcs.length ≤ 100000) (hov : a0.wgt + x.wgt < 4294967296) {lo : Nat} (hlo : lo ≤ w.heap.size) (h : RowsAt w lo w.heap.size L (rowM (r :: l0))) (hsame : r.src = x.src) :
    Calls Try.prog 27 #[.slice L n c, Ed.agg x] w (MwPost w lo (addR x (r :: l0))) := by
  obtain ⟨src, dst, wgt⟩ := x
  dsimp only at hsame
  obtain ⟨H, hH⟩ : ∃ H, H = w.heap.size := ⟨_, rfl⟩
  obtain ⟨w0, hw0⟩ : ∃ w0, w0 = w.alloc (.cells #[.int .u32 (src : Int), .int .u32 (dst : Int), .int .u32 (wgt : Int)] 24) := ⟨_, rfl⟩
  obtain ⟨w1, hw1⟩ : ∃ w1, w1 = w0.alloc (.cells #[.int .u32 (dst : Int), .int .u32 (wgt : Int)] 59) := ⟨_, rfl⟩
  have hb0 : Below w.heap.size w w0 := by rw [hw0]; exact (Below.refl _ _).alloc (Nat.le_refl _) _
  have hs0 : w0.heap.size = H + 1 := by rw [hw0, hH]; simp
  have hb01 : Below w0.heap.size w0 w1 := by rw [hw1]; exact (Below.refl _ _).alloc (Nat.le_refl _) _
  have BA := Lib.hid (show Blk w0 H [.int .u32 (src : Int), .int .u32 (dst : Int), .int .u32 (wgt : Int)] by rw [hw0, hH]; exact Blk.new w [.int .u32 (src : Int), .int .u32 (dst : Int), .int .u32 (wgt : Int)] _)
  have BB := Lib.hid (show Blk w1 (H + 1) [.int .u32 (dst : Int), .int .u32 (wgt : Int)] by rw [hw1, ← hs0]; exact Blk.new w0 [.int .u32 (dst : Int), .int .u32 (wgt : Int)] _)
  have BA1 := Lib.hid (BA.out.past hb01)
  have hb1 : Below w.heap.size w w1 := hb0.trans (hb01.mono hb0.size)
  obtain ⟨vs, v1, v2, v3⟩ := h.ex
  have c0 : w0.cell? ⟨H, 0, none⟩ = some (.int .u32 (src : Int)) := BA.out.cell rfl
  have c1 : w0.cell? ⟨H, 1, none⟩ = some (.int .u32 (dst : Int)) := BA.out.cell rfl
  have c2 : w0.cell? ⟨H, 2, none⟩ = some (.int .u32 (wgt : Int)) := BA.out.cell rfl
  have hl0 : (rowM l0).length + 1 = n := by rw [rowM_cons, List.length_append] at hl; simpa using hl
  obtain ⟨m1, hm1⟩ : ∃ m, m = (rowM l0).length := ⟨_, rfl⟩
  have hnm : n = m1 + 1 := by omega
  have hget : (rowM (r :: l0))[m1]? = some (r.src, arcM r.arcs) := by rw [rowM_cons, hm1, List.getElem?_append_right (Nat.le_refl _), Nat.sub_self]; rfl
  obtain ⟨a, eL, hab, hcc⟩ := v1 (by rw [rvCells_length]; omega)
  subst eL
  have hp : vs[m1]? = some vs[m1] := List.getElem?_eq_getElem (by omega)
  have hat := v3 m1 _ _ hp hget
  obtain ⟨g1, g2⟩ := rvCells_get hp
  have k1 := hcc _ _ g1
  have k2 := hcc _ _ g2
  rw [hat.src, hsame] at k1
  have hadd := add_field a (m1 * 2) 0
  rw [Nat.zero_add] at hadd
  rw [hadd] at k2
  obtain ⟨A1, hA1⟩ : ∃ A, A = vs[m1].2.1 := ⟨_, rfl⟩
  obtain ⟨m, hmE⟩ : ∃ m, m = vs[m1].2.2.1 := ⟨_, rfl⟩
  obtain ⟨d1, hd1⟩ : ∃ d, d = vs[m1].2.2.2 := ⟨_, rfl⟩
  rw [← hA1, ← hmE, ← hd1] at k2
  have harc := hat.arcs
  have hlen := hat.len
  rw [← hA1] at harc
  rw [← hmE] at hlen
  dsimp only at harc hlen
  have hm0 : 0 < m := by rw [← hlen, arcM_length, hra]; simp
  have hm5 : m ≤ 100000 := by rw [← hlen, arcM_length]; exact hm
  obtain ⟨m2, hm2⟩ : ∃ q, q = m - 1 := ⟨_, rfl⟩
  have HCE := Lib.hid (show ∀ W, Below w.heap.size w W → W.cell? (a.add (m1 * 2)) = some (.int .u32 (src : Int)) ∧ W.cell? ⟨(a.add (m1 * 2)).block, (a.add (m1 * 2)).off + 1, none⟩ = some (.slice A1 m d1) from fun W hW => ⟨(hW.cell (by rw [block_add]; exact hab)).trans k1, (hW.cell (p := ⟨(a.add (m1 * 2)).block, (a.add (m1 * 2)).off + 1, none⟩) (by show (a.add (m1 * 2)).block < _; rw [block_add]; exact hab)).trans k2⟩)
  have HV := Lib.hid (And.intro v1 (And.intro v2 v3))
  have HARC := Lib.hid (And.intro harc hlen)
  have HRA := Lib.hid (And.intro hra hov)
  have HSAME := Lib.hid hsame
  have HL := Lib.hid (And.intro hm1 hl)
  have HX := Lib.hid hx
  have HW0 := Lib.hid hw0
  have HW1 := Lib.hid hw1
  have HHE := Lib.hid hH
  have HB1 := Lib.hid hb1
  have HS1 := Lib.hid (show w1.heap.size = H + 2 by rw [hw1]; simp [hs0])
  have hH0 : H < w0.heap.size := BA.out.lt
  have e1 : (n : Int) - 1 = (m1 : Int) := by omega
  have e2 : (m1 : Int) < (n : Int) := by omega
  have e7 : (m1 : Int) ≤ (c : Int) := by omega
  have e8 : (0 : Int) ≤ (m1 : Int) := by omega
  have e3 : m1 < n := by omega
  have e4 : IntKind.i64.wrap (m1 : Int) = (m1 : Int) := IntWalk.i64_in _ (by omega)
  have q0 : ((n : Int) == 0) = false := by simp; omega
  have q1 : ((src : Int) != (src : Int)) = false := by simp
  have f1 : (m : Int) - 1 = (m2 : Int) := by omega
  have f2 : (m2 : Int) < (m : Int) := by omega
  have f3 : m2 < m := by omega
  have f4 : IntKind.i64.wrap (m2 : Int) = (m2 : Int) := IntWalk.i64_in _ (by omega)
  have HNM := Lib.hid hnm
  have HM2 := Lib.hid hm2
  clear h hl hx v1 v2 v3 hw0 hw1 hH hb0 hb01 hb1 hra hov hsame hat harc hlen k1 k2 g1 g2 hp hget hcc hadd hA1 hmE hd1 hl0 hm1 hm hnm hm2 hab
  go_enter Try.func27, Try.ntmps27
  go_upto_region 1 with fail
  rw [← HW0.out, ← HHE.out]
  go_upto_region 2 with fail
  rw [← HW1.out]
  refine Gw.wp_region_grow (mwG (m1 + 1) c H src src false false (some a) a) [14, 15, 16, 17, 18, 19, 20, 21, 22, 23, 24, 25, 26, 27, 28] [([0], none), ([14], none), ([15], none), ([16], none), ([0, 17], some (17, false)), ([0, 17], some (17, false)), ([19, 17], some (17, false)), ([20, 17], some (17, false)), ([18, 21, 17], some (17, false)), ([22, 17], some (17, false)), ([23, 17], some (17, false)), ([3, 17], some (17, false)), ([25, 17], some (17, false)), ([24, 26, 17], some (17, false)), ([17, 27], none)] 93 (by kernel_rfl) (by kernel_rfl) rfl ?h0 ?hreq ?hend
  case h0 =>
    intro t W hnd _
    unfold mwG
    rw [← HNM.out]
    split <;> first | rfl | trivial | exact absurd (by simp) hnd
  case hreq =>
    refine ⟨?_, ?_, ?_, ?_, ?_, ?_, ?_, ?_, ?_, ?_, ?_, ?_, ?_, ?_, ?_, trivial⟩
    all_goals
      intro ac W hg hk
      have hg' : Below w1.heap.size w1 W := hg
      have z0 := (BA1.out.past hg').cell (i := 0) rfl
      obtain ⟨z1, -⟩ := HCE.out W (HB1.out.trans (hg'.mono HB1.out.size))
      simp only [Gw.Knows, mwG, ← HNM.out, Nat.add_sub_cancel] at hk
      have e5 : n - 1 = m1 := by omega
      simp [go_sem, Gw.OpReq, Gw.Ok, Gw.Post, Gw.Holds, mwG, Gw.Grows.refl, hk, ← HNM.out, e5, q0, q1, z0, z1, e1, e2, e3, e4]
      done
  case hend =>
    intro y w2 hg hy
    have y28 : y 28 = .bool false := by have := (hy 28 (by simp)).now; simpa [mwG] using this
    have hg' : Below w1.heap.size w1 w2 := hg
    simp only [Gw.putAll, Act.put, List.setIfInBounds_toArray, List.set_cons_zero, List.set_cons_succ]
    rw [y28]
    have HB2 := Lib.hid (HB1.out.trans (hg'.mono HB1.out.size))
    have BA2 := Lib.hid (BA1.out.past hg')
    have BB2 := Lib.hid (BB.out.past hg')
    have HS2 := Lib.hid (show H + 2 ≤ w2.heap.size by have := hg'.size; have := HS1.out; omega)
    obtain ⟨z1, z2⟩ := HCE.out w2 HB2.out
    clear hg hy hg' y28 q0 q1
    go_upto_region 5 with fail
    obtain ⟨w3, hw3⟩ : ∃ w3, w3 = w2.alloc (.cells #[.int .u32 (src : Int), .slice A1 m d1] 51) := ⟨_, rfl⟩
    obtain ⟨B6, hB6⟩ : ∃ b, b = w2.heap.size := ⟨_, rfl⟩
    have hb23 : Below w2.heap.size w2 w3 := by rw [hw3]; exact (Below.refl _ _).alloc (Nat.le_refl _) _
    have BL := Lib.hid (show Blk w3 B6 [.int .u32 (src : Int), .slice A1 m d1] by rw [hw3, hB6]; exact Blk.new w2 [.int .u32 (src : Int), .slice A1 m d1] _)
    rw [← hw3, ← hB6]
    have s1 : w3.cell? ⟨B6, 1, none⟩ = some (.slice A1 m d1) := BL.out.cell rfl
    have hB6l : B6 < w3.heap.size := BL.out.lt
    have HB3 := Lib.hid (HB2.out.trans (hb23.mono HB2.out.size))
    have BA3 := Lib.hid (BA2.out.past hb23)
    have BB3 := Lib.hid (BB2.out.past hb23)
    have hs3 : H + 2 ≤ w3.heap.size := by have := hb23.size; have := HS2.out; omega
    obtain ⟨i0, hi0, hz0, hz1, hz2⟩ := info_parts arc_info
    obtain ⟨b1, hA1, hb1l, hb1c⟩ := HARC.out.1.1 (by rw [arcCells_length, HARC.out.2]; omega)
    subst hA1
    have HOE := Lib.hid (show (w3.alloc (.cells #[] 59)).ownsRow (H + 2) 59 2 (.slice (some ⟨w3.heap.size, 0, none⟩) 0 0) 0 [] from World.ownsRow_lit (base := H + 2) (size := 2) w3 #[] 0 (by omega) (by unfold maxLen; omega) rfl)
    have HSRC := Lib.hid (show ∀ j u, (arcCells (arcM r.arcs))[j]? = some u → (w3.alloc (.cells #[] 59)).cell? (b1.add j) = some u from fun j u hu => ((HB3.out.alloc HB3.out.size (.cells #[] 59)).cell (by rw [block_add]; exact hb1l)).trans (hb1c j u hu))
    have HLEN := Lib.hid (show (arcCells (arcM r.arcs)).length = m * 2 by rw [arcCells_length, HARC.out.2])
    clear hw3 hB6 hb23 hb1l hb1c BA2 BB2 BA1 BB z1 z2 c0 c1 c2
    go_wp2_with (at_builtin
                 go_loud (refine wpList_append_own_at _ rfl (.tmp 45) (.tmp 47) 49 rfl (H + 2) 59 i0 _ 2 8 Try.underlying49 hi0 hz0 hz1 hz2 rfl (by decide) (.slice (some ⟨w3.heap.size, 0, none⟩) 0 0) 0 [] rfl HOE.out b1 m d1 (arcCells (arcM r.arcs)) rfl HLEN.out HSRC.out arcCells_one (by unfold maxLen; omega) (by omega) (by rw [World.size_alloc]; omega) ?_)
                 intro v7 w7 ho7 hg7 hnn7 hn7
                 refine Classical.byContradiction fun hcontra => ?_)
    rw [Nat.zero_add, List.nil_append] at ho7
    obtain ⟨g, d7, hv7, -⟩ := ho7.form hm0
    subst hv7
    have HB7 := Lib.hid (show Below w.heap.size w w7 from (HB3.out.alloc HB3.out.size (.cells #[] 59)).grown hg7 (by rw [World.size_alloc]; have := HB3.out.size; omega) (fun k e => by cases e; exact HB3.out.size))
    have hb37 : Below w3.heap.size w3 w7 := ((Below.refl _ w3).alloc (Nat.le_refl _) (.cells #[] 59)).grown hg7 (by rw [World.size_alloc]; omega) (fun k e => by cases e; exact Nat.le_refl _)
    have BA7 := Lib.hid (BA3.out.past hb37)
    have BB7 := Lib.hid (BB3.out.past hb37)
    have HO7 := Lib.hid ho7
    have HS7 := Lib.hid (show H + 2 ≤ w7.heap.size by have := hb37.size; omega)
    obtain ⟨t, ht⟩ : ∃ t, t = a0.dst := ⟨_, rfl⟩
    obtain ⟨t2, ht2⟩ : ∃ t, t = a0.wgt := ⟨_, rfl⟩
    have hlast : (arcM r.arcs)[m2]? = some (⟨t, t2⟩ : ArcD) := by
      have h0 : (arcM r.arcs).length = m := HARC.out.2
      rw [HRA.out.1, arcM_cons] at h0 ⊢
      rw [List.length_append] at h0
      have h1 : m2 = (arcM A0).length := by have := HM2.out; simp at h0; omega
      rw [h1, List.getElem?_append_right (Nat.le_refl _), Nat.sub_self, ht, ht2]
      rfl
    obtain ⟨h1, h2⟩ := arcCells_get hlast
    have HC7 := Lib.hid (show ∀ W, Below w7.heap.size w7 W → W.cell? ⟨g, m2 * 2, none⟩ = some (.int .u32 (t : Int)) ∧ W.cell? ⟨g, m2 * 2 + 1, none⟩ = some (.int .u32 (t2 : Int)) ∧ W.cell? ⟨H, 1, none⟩ = some (.int .u32 (dst : Int)) ∧ W.cell? ⟨H, 2, none⟩ = some (.int .u32 (wgt : Int)) from fun W hW => by
      have ho := own_below' HO7.out hW
      refine ⟨?_, ?_, (BA7.out.past hW).cell rfl, (BA7.out.past hW).cell rfl⟩
      · rw [ho.cellAt _ (by omega)]; exact h1
      · rw [ho.cellAt _ (by omega)]; exact h2)
    have HT := Lib.hid (And.intro ht ht2)
    clear ho7 hg7 hnn7 hn7 hb37 hlast h1 h2 ht ht2 HOE HSRC HLEN s1 BA3 BB3 BL
    apply hcontra
    clear hcontra
    go_upto_region 6 with fail
    by_cases hq : t = dst
    · have q2 : ((t : Int) == (dst : Int)) = true := by rw [hq]; simp
      refine Gw.wp_region_grow (mvG H g m m2 d7 t dst true) [49, 50, 51, 52, 53, 54, 55, 56, 57, 58] [([7], none), ([7], none), ([50], none), ([51], none), ([49, 52], none), ([53], none), ([54], none), ([3], none), ([56], none), ([55, 57], none)] 93 (by kernel_rfl) (by kernel_rfl) rfl ?h0 ?hreq ?hend
      case h0 =>
        intro t W hnd _
        unfold mvG
        split <;> first | rfl | trivial | exact absurd (by simp) hnd
      case hreq =>
        refine ⟨?_, ?_, ?_, ?_, ?_, ?_, ?_, ?_, ?_, ?_, trivial⟩
        all_goals
          intro ac W hg hk
          obtain ⟨z0, z1, z2, z3⟩ := HC7.out W hg
          simp only [Gw.Knows, mvG] at hk
          simp [go_sem, Gw.OpReq, Gw.Ok, Gw.Post, Gw.Holds, mvG, Gw.Grows.refl, hk, z0, z2, f1, f2, f3, f4, q2]
          done
      case hend =>
        intro y w8 hg hy
        have hg' : Below w7.heap.size w7 w8 := hg
        have y58 : y 58 = .bool true := (hy 58 (by simp)).now
        simp only [Gw.putAll, Act.put, List.setIfInBounds_toArray, List.set_cons_zero, List.set_cons_succ]
        rw [y58]
        clear hy y58 hg q2
        go_upto_region 7 with fail
        obtain ⟨uu, huu⟩ : ∃ u, u = t2 + wgt := ⟨_, rfl⟩
        have hu32 : t2 + wgt < 4294967296 := by rw [HT.out.2]; exact HRA.out.2
        have q3 : IntKind.u32.wrap ((t2 : Int) + (wgt : Int)) = (uu : Int) := by rw [IntKind.wrap_u32]; omega
        refine wp_region_tlT 16 (mvH H g m m2 d7 t2 wgt uu) [59, 60, 61, 62, 63, 64, 65, 66, 67, 68, 69, 70, 71, 72, 73, 74] [([7], none), ([7], none), ([60], none), ([61], none), ([7], none), ([7], none), ([64], none), ([65], none), ([63, 66], none), ([67], none), ([68], none), ([3], none), ([70], none), ([69, 71], none), ([59, 62], none), ([73], none)] 93 (by kernel_rfl) (by kernel_rfl) rfl ?h0 ?hreq rfl ?hend
        case h0 =>
          intro t W hnd _
          unfold mvH
          split <;> first | rfl | trivial | exact absurd (by simp) hnd
        case hreq =>
          refine ⟨?_, ?_, ?_, ?_, ?_, ?_, ?_, ?_, ?_, ?_, ?_, ?_, ?_, ?_, ?_, ?_, trivial⟩
          all_goals
            intro ac W hgg hk
            obtain ⟨z0, z1, z2, z3⟩ := HC7.out W (hg'.trans (Below.mono (show Below w8.heap.size w8 W from hgg) hg'.size))
            simp only [Gw.Knows, mvH] at hk
            simp [go_sem, Gw.OpReq, Gw.Ok, Gw.Post, Gw.Holds, mvH, Gw.Grows.refl, hk, z0, z1, z3, f1, f2, f3, f4, q3]
            done
        case hend =>
          intro y w9 hgg hy
          have hg9 : Below w7.heap.size w7 w9 := hg'.trans (Below.mono (show Below w8.heap.size w8 w9 from hgg) hg'.size)
          have y72 : y 72 = .int .u32 (uu : Int) := (hy 72 (by simp)).now
          have y74 : y 74 = .pointer (some ⟨g, m2 * 2 + 1, none⟩) := (hy 74 (by simp)).now
          simp only [Gw.putAll, Act.put, List.setIfInBounds_toArray, List.set_cons_zero, List.set_cons_succ]
          rw [y72, y74]
          have ho9 := own_below' HO7.out hg9
          have x9 : w9.cell? ⟨g, m2 * 2 + 1, none⟩ = some (.int .u32 (t2 : Int)) := (HC7.out w9 hg9).2.1
          have x9f : w9.frozen? ⟨g, m2 * 2 + 1, none⟩ = false := ho9.frozenAt _
          obtain ⟨ww, hww⟩ : ∃ ww, ww = w9.setCell ⟨g, m2 * 2 + 1, none⟩ (.int .u32 (uu : Int)) := ⟨_, rfl⟩
          refine tlk_skip (w' := ww) (by rw [hww]; simp [execOp, go_sem, x9, x9f]) ?_
          refine tl_nil ?_
          obtain ⟨LL, hLL⟩ : ∃ LL, LL = arcM (addA ⟨src, dst, wgt⟩ r.arcs) := ⟨_, rfl⟩
          have hLL2 : LL = arcM A0 ++ [(⟨t, uu⟩ : ArcD)] := by rw [hLL, HRA.out.1, arcM_same (by rw [← HT.out.1]; exact hq), HT.out.1, huu, HT.out.2]
          have hm2l : (arcM A0).length = m2 := by
            have h0 : (arcM r.arcs).length = m := HARC.out.2
            rw [HRA.out.1, arcM_cons, List.length_append] at h0
            have := HM2.out
            simp at h0
            omega
          have harx : (arcCells (arcM r.arcs)).set (m2 * 2 + 1) (.int .u32 (uu : Int)) = arcCells LL := by
            rw [hLL2, HRA.out.1, arcM_cons, arcCells_append, arcCells_append, List.set_append_right _ _ (by rw [arcCells_length, hm2l]; omega), arcCells_length, hm2l, show m2 * 2 + 1 - m2 * 2 = 1 by omega, HT.out.1]
            rfl
          have HAR := Lib.hid (show ww.ownsRow H 59 2 (.slice (some ⟨g, 0, none⟩) m d7) m (arcCells LL) from by
            rw [hww, ← harx]
            exact own_more (ho9.stored _ _).1 (by omega))
          have ho9w : Out (fun k => k = g) w9 ww := by rw [hww]; exact (Out.refl (fun k => k = g) w9).setCell (p := ⟨g, m2 * 2 + 1, none⟩) (.inl rfl) _
          have hgH : H + 2 ≤ g := (ho9.lt g rfl).1
          have hgne : H ≠ g := by omega
          have HBW := Lib.hid (show Below w.heap.size w ww from (HB7.out.trans (hg9.mono HB7.out.size)).trans (ho9w.below (fun k _ e => by rw [e, ← HHE.out]; omega) (by have := HB7.out.size; have := hg9.size; omega)))
          have BAW := Lib.hid (show Blk ww H [.int .u32 (src : Int), .int .u32 (dst : Int), .int .u32 (wgt : Int)] from (BA7.out.past hg9).out ho9w hgne)
          have HSZ := Lib.hid (show H ≤ ww.heap.size by have := ho9w.size; have := hg9.size; have := HS7.out; omega)
          have HLL := Lib.hid hLL.symm
          have HLW := Lib.hid (show LL.length = m by rw [hLL2, List.length_append, hm2l]; have := HM2.out; simp; omega)
          have HFI := Lib.hid (show ∀ p ∈ LL, p.fits from fun p hp => by
            rw [hLL2] at hp
            rcases List.mem_append.1 hp with hp | hp
            · exact HARC.out.1.2 p (by rw [HRA.out.1, arcM_cons]; exact List.mem_append_left _ hp)
            · rw [List.mem_singleton.1 hp]
              exact ⟨by show t < _; rw [hq]; exact HX.out.2.1, by show uu < _; omega⟩)
          clear hy y72 y74 hgg hg9 ho9 x9 x9f hww hLL hLL2 hm2l harx ho9w hgH hgne q3 hu32 huu hg'
          have OE := Lib.hid (show (ww.alloc (.cells #[] 51)).ownsRow H 51 2 (.slice (some ⟨ww.heap.size, 0, none⟩) 0 0) 0 [] from World.ownsRow_lit (base := H) (size := 2) ww #[] 0 (by have := HSZ.out; omega) (by unfold maxLen; omega) rfl)
          obtain ⟨j0, hj0, hy0, hy1, hy2⟩ := info_parts row_info
          have HNL := Lib.hid (show (rvCells (vs.take m1)).length = m1 * 2 by rw [rvCells_length, List.length_take, HV.out.2.1, HL.out.2]; omega)
          have HNS := Lib.hid (show 0 < (rvCells (vs.take m1)).length → ∃ a', some a = some a' ∧ ∀ j u, (rvCells (vs.take m1))[j]? = some u → (ww.alloc (.cells #[] 51)).cell? (a'.add j) = some u from fun h0 => by
            have hbw : Below w.heap.size w (ww.alloc (.cells #[] 51)) := HBW.out.alloc HBW.out.size _
            obtain ⟨a', ea, hal, hac⟩ := HV.out.1 (by rw [rvCells_length, HV.out.2.1, HL.out.2]; omega)
            refine ⟨a', ea, fun j u hu => (hbw.cell (by rw [block_add]; exact hal)).trans (hac j u ?_)⟩
            rw [← rvCells_take, List.getElem?_take] at hu
            split at hu
            · exact hu
            · cases hu)
          clear HC7 HO7 BB7
          go_wp2_with (at_builtin
                       go_loud (refine wpList_append_row rfl (.tmp 79) (.tmp 84) 36 rfl H 51 j0 _ 2 32 Try.underlying36 hj0 hy0 hy1 hy2 rfl (by decide) (.slice (some ⟨ww.heap.size, 0, none⟩) 0 0) 0 [] rfl OE.out (some a) m1 c (rvCells (vs.take m1)) rfl HNL.out HNS.out rvCells_one (by unfold maxLen; omega) (by omega) (by rw [World.size_alloc]; have := HSZ.out; omega) ?_)
                       intro va wa hoa hga hna
                       refine Classical.byContradiction fun hcontra => ?_)
          rw [Nat.zero_add, List.nil_append] at hoa
          try rw [Nat.zero_add] at hcontra
          obtain ⟨Aa, da, hva, -⟩ := own_slice' hoa
          subst hva
          have HBA := Lib.hid (show Below w.heap.size w wa from (HBW.out.alloc HBW.out.size (.cells #[] 51)).grown hga (by rw [World.size_alloc]; have := HBW.out.size; omega) (fun k e => by cases e; exact HBW.out.size))
          have hba : Below ww.heap.size ww wa := ((Below.refl _ ww).alloc (Nat.le_refl _) (.cells #[] 51)).grown hga (by rw [World.size_alloc]; omega) (fun k e => by cases e; exact Nat.le_refl _)
          have HARW := Lib.hid (own_below' HAR.out hba)
          have HOA := Lib.hid hoa
          have hsa : H ≤ wa.heap.size := by have := hba.size; have := HSZ.out; omega
          have BAa := Lib.hid (BAW.out.past hba)
          have z0 : wa.cell? ⟨H, 0, none⟩ = some (.int .u32 (src : Int)) := BAa.out.cell rfl
          have HLT := Lib.hid (BAa.out.lt)
          clear hoa hga hna hba OE HNL HNS HAR BAW HBW
          apply hcontra
          clear hcontra
          go_wp2_with (at_builtin
                       go_loud (refine wpList_append_own_at _ rfl (.tmp 86) (.tmp 91) 36 rfl H 51 j0 _ 2 32 Try.underlying36 hj0 hy0 hy1 hy2 rfl (by decide) (.slice Aa m1 da) m1 _ rfl (HOA.out.alloc _) ⟨wa.heap.size, 0, none⟩ 1 1 [.int .u32 (src : Int), .slice (some ⟨g, 0, none⟩) m d7] rfl rfl (two_lit rfl) (fun u hu => by simp at hu; rcases hu with rfl | rfl <;> rfl) (by unfold maxLen; omega) (by omega) (by rw [World.size_alloc]; omega) ?_)
                       intro vz wz hoz hgz hnnz hnz
                       refine Classical.byContradiction fun hcontra => ?_)
          obtain ⟨Az, dz, hvz, hcz⟩ := own_slice' hoz
          subst hvz
          have hbz : Below w.heap.size w wz := (HBA.out.alloc HBA.out.size (.cells #[.int .u32 (src : Int), .slice (some ⟨g, 0, none⟩) m d7] 51)).grown hgz (by rw [World.size_alloc]; have := HBA.out.size; omega) (fun k e => by rw [← HHE.out]; exact (HOA.out.lt k e).1)
          have harz : wz.ownsRow H 59 2 (.slice (some ⟨g, 0, none⟩) m d7) m (arcCells LL) := own_out HARW.out (((Out.refl (fun k => (Value.slice Aa m1 da).ownBlock = some k) wa).alloc (.cells #[.int .u32 (src : Int), .slice (some ⟨g, 0, none⟩) m d7] 51)).grown hgz (fun k e => .inl e)) (fun k k1 k2 => own_apart HOA.out HARW.out (by decide) k2 k1)
          have hrow : wz.ownsRow H 51 2 (.slice Az (m1 + 1) dz) (m1 + 1) (rvCells (vs.take m1 ++ [(src, some ⟨g, 0, none⟩, m, d7)])) := by
            rw [rvCells_append]
            exact hoz
          have hrows : RowsAt wz lo wz.heap.size Az (rowM (addR ⟨src, dst, wgt⟩ (r :: l0))) := by
            rw [rowM_same HSAME.out, HLL.out, HSAME.out]
            have htl : (vs.take m1).length = (rowM l0).length := by rw [List.length_take, HV.out.2.1, HL.out.2, ← HL.out.1]; omega
            refine rows_own hrow (by have := HHE.out; omega) (by rw [List.length_append, List.length_append, htl]; rfl) (rwat_snoc htl (fun i p s hp hs => ?_) ⟨(fun b hb => by have := (harz.lt b.block (by rw [show some _ = some b from hb]; rfl)).1; have := HHE.out; omega), rfl, HX.out.1, HLW.out, ⟨(own_bounds harz).1, (own_bounds harz).2⟩, Cs.of_own harz, HFI.out⟩)
            have hi : i < (rowM l0).length := (List.getElem?_eq_some_iff.1 hs).1
            have hp' : vs[i]? = some p := by
              rw [List.getElem?_take] at hp
              split at hp
              · exact hp
              · cases hp
            have hs' : (rowM (r :: l0))[i]? = some s := by rw [rowM_cons, List.getElem?_append_left hi]; exact hs
            exact ((HV.out.2.2 i p s hp' hs').below hbz).more hbz.size
          have FIN := Lib.hid (show MwPost w lo (addR ⟨src, dst, wgt⟩ (r :: l0)) (.returned (.slice Az (m1 + 1) dz)) wz from ⟨Az, m1 + 1, dz, rfl, by rw [rowM_same HSAME.out, List.length_append, ← HL.out.1]; rfl, hcz, (own_bounds hrow).2, hrows, hbz⟩)
          clear hoz hgz hnnz hnz hbz harz hrow hrows hcz
          apply hcontra
          clear hcontra
          go_wp2
          go_ret
          exact FIN.out
    · have q2 : ((t : Int) == (dst : Int)) = false := by simp; omega
      refine Gw.wp_region_grow (mvG H g m m2 d7 t dst false) [49, 50, 51, 52, 53, 54, 55, 56, 57, 58] [([7], none), ([7], none), ([50], none), ([51], none), ([49, 52], none), ([53], none), ([54], none), ([3], none), ([56], none), ([55, 57], none)] 93 (by kernel_rfl) (by kernel_rfl) rfl ?h0 ?hreq ?hend
      case h0 =>
        intro t W hnd _
        unfold mvG
        split <;> first | rfl | trivial | exact absurd (by simp) hnd
      case hreq =>
        refine ⟨?_, ?_, ?_, ?_, ?_, ?_, ?_, ?_, ?_, ?_, trivial⟩
        all_goals
          intro ac W hg hk
          obtain ⟨z0, z1, z2, z3⟩ := HC7.out W hg
          simp only [Gw.Knows, mvG] at hk
          simp [go_sem, Gw.OpReq, Gw.Ok, Gw.Post, Gw.Holds, mvG, Gw.Grows.refl, hk, z0, z2, f1, f2, f3, f4, q2]
          done
      case hend =>
        intro y w8 hg hy
        have hg' : Below w7.heap.size w7 w8 := hg
        have y58 : y 58 = .bool false := (hy 58 (by simp)).now
        simp only [Gw.putAll, Act.put, List.setIfInBounds_toArray, List.set_cons_zero, List.set_cons_succ]
        rw [y58]
        have BB8 := Lib.hid (BB7.out.past hg')
        have BA8 := Lib.hid (BA7.out.past hg')
        have HO8 := Lib.hid (own_below' HO7.out hg')
        have HB8 := Lib.hid (HB7.out.trans (hg'.mono HB7.out.size))
        have hs8 : H + 2 ≤ w8.heap.size := by have := hg'.size; have := HS7.out; omega
        have u0 : w8.cell? ⟨H + 1, 0, none⟩ = some (.int .u32 (dst : Int)) := BB8.out.cell rfl
        have u1 : w8.cell? ⟨H + 1, 1, none⟩ = some (.int .u32 (wgt : Int)) := BB8.out.cell rfl
        have hH1 : H + 1 < w8.heap.size := by omega
        clear hy y58 hg q2 hg'
        go_wp2_with (at_builtin
                     go_loud (refine wpList_append_own_at _ rfl (.tmp 75) (.tmp 77) 49 rfl (H + 2) 59 i0 _ 2 8 Try.underlying49 hi0 hz0 hz1 hz2 rfl (by decide) (.slice (some ⟨g, 0, none⟩) m d7) m _ rfl (HO8.out.alloc _) ⟨w8.heap.size, 0, none⟩ 1 1 [.int .u32 (dst : Int), .int .u32 (wgt : Int)] rfl rfl (two_lit rfl) (fun u hu => by simp at hu; rcases hu with rfl | rfl <;> rfl) (by unfold maxLen; omega) (by omega) (by rw [World.size_alloc]; omega) ?_)
                     intro v9 ww ho9 hg9 hnn9 hn9
                     refine Classical.byContradiction fun hcontra => ?_)
        obtain ⟨g9, d9, hv9, -⟩ := ho9.form (Nat.succ_pos m)
        subst hv9
        obtain ⟨LL, hLL⟩ : ∃ LL, LL = arcM (addA ⟨src, dst, wgt⟩ r.arcs) := ⟨_, rfl⟩
        have hLL2 : LL = arcM r.arcs ++ [(⟨dst, wgt⟩ : ArcD)] := by rw [hLL, HRA.out.1, arcM_new (by rw [← HT.out.1]; exact hq)]
        have hgl : H + 2 ≤ g := (HO8.out.lt g rfl).1
        have HAR := Lib.hid (show ww.ownsRow H 59 2 (.slice (some ⟨g9, 0, none⟩) (m + 1) d9) (m + 1) (arcCells LL) from by
          rw [hLL2, arcCells_append]
          exact own_more ho9 (by omega))
        have HBW := Lib.hid (show Below w.heap.size w ww from (HB8.out.alloc HB8.out.size (.cells #[.int .u32 (dst : Int), .int .u32 (wgt : Int)] 59)).grown hg9 (by rw [World.size_alloc]; have := HB8.out.size; omega) (fun k e => by have h9 := (HO8.out.lt k e).1; have := HHE.out; omega))
        have BAW := Lib.hid (show Blk ww H [.int .u32 (src : Int), .int .u32 (dst : Int), .int .u32 (wgt : Int)] from (BA8.out.alloc (.cells #[.int .u32 (dst : Int), .int .u32 (wgt : Int)] 59)).grown hg9 (fun e => by have h9 := (HO8.out.lt H e).1; omega))
        have HSZ := Lib.hid (show H ≤ ww.heap.size by have := HBW.out.size; have := HHE.out; omega)
        have HLL := Lib.hid hLL.symm
        have HLW := Lib.hid (show LL.length = m + 1 by rw [hLL2, List.length_append, HARC.out.2]; rfl)
        have HFI := Lib.hid (show ∀ p ∈ LL, p.fits from fun p hp => by
          rw [hLL2] at hp
          rcases List.mem_append.1 hp with hp | hp
          · exact HARC.out.1.2 p hp
          · rw [List.mem_singleton.1 hp]
            exact ⟨HX.out.2.1, HX.out.2.2⟩)
        clear ho9 hg9 hnn9 hn9 hLL hLL2 hgl BB8 BA8 HO8 u0 u1
        apply hcontra
        clear hcontra
        have OE := Lib.hid (show (ww.alloc (.cells #[] 51)).ownsRow H 51 2 (.slice (some ⟨ww.heap.size, 0, none⟩) 0 0) 0 [] from World.ownsRow_lit (base := H) (size := 2) ww #[] 0 (by have := HSZ.out; omega) (by unfold maxLen; omega) rfl)
        obtain ⟨j0, hj0, hy0, hy1, hy2⟩ := info_parts row_info
        have HNL := Lib.hid (show (rvCells (vs.take m1)).length = m1 * 2 by rw [rvCells_length, List.length_take, HV.out.2.1, HL.out.2]; omega)
        have HNS := Lib.hid (show 0 < (rvCells (vs.take m1)).length → ∃ a', some a = some a' ∧ ∀ j u, (rvCells (vs.take m1))[j]? = some u → (ww.alloc (.cells #[] 51)).cell? (a'.add j) = some u from fun h0 => by
          have hbw : Below w.heap.size w (ww.alloc (.cells #[] 51)) := HBW.out.alloc HBW.out.size _
          obtain ⟨a', ea, hal, hac⟩ := HV.out.1 (by rw [rvCells_length, HV.out.2.1, HL.out.2]; omega)
          refine ⟨a', ea, fun j u hu => (hbw.cell (by rw [block_add]; exact hal)).trans (hac j u ?_)⟩
          rw [← rvCells_take, List.getElem?_take] at hu
          split at hu
          · exact hu
          · cases hu)
        clear HC7 HO7 BB7
        go_wp2_with (at_builtin
                     go_loud (refine wpList_append_row rfl (.tmp 79) (.tmp 84) 36 rfl H 51 j0 _ 2 32 Try.underlying36 hj0 hy0 hy1 hy2 rfl (by decide) (.slice (some ⟨ww.heap.size, 0, none⟩) 0 0) 0 [] rfl OE.out (some a) m1 c (rvCells (vs.take m1)) rfl HNL.out HNS.out rvCells_one (by unfold maxLen; omega) (by omega) (by rw [World.size_alloc]; have := HSZ.out; omega) ?_)
                     intro va wa hoa hga hna
                     refine Classical.byContradiction fun hcontra => ?_)
        rw [Nat.zero_add, List.nil_append] at hoa
        try rw [Nat.zero_add] at hcontra
        obtain ⟨Aa, da, hva, -⟩ := own_slice' hoa
        subst hva
        have HBA := Lib.hid (show Below w.heap.size w wa from (HBW.out.alloc HBW.out.size (.cells #[] 51)).grown hga (by rw [World.size_alloc]; have := HBW.out.size; omega) (fun k e => by cases e; exact HBW.out.size))
        have hba : Below ww.heap.size ww wa := ((Below.refl _ ww).alloc (Nat.le_refl _) (.cells #[] 51)).grown hga (by rw [World.size_alloc]; omega) (fun k e => by cases e; exact Nat.le_refl _)
        have HARW := Lib.hid (own_below' HAR.out hba)
        have HOA := Lib.hid hoa
        have hsa : H ≤ wa.heap.size := by have := hba.size; have := HSZ.out; omega
        have BAa := Lib.hid (BAW.out.past hba)
        have z0 : wa.cell? ⟨H, 0, none⟩ = some (.int .u32 (src : Int)) := BAa.out.cell rfl
        have HLT := Lib.hid (BAa.out.lt)
        clear hoa hga hna hba OE HNL HNS HAR BAW HBW
        apply hcontra
        clear hcontra
        go_wp2_with (at_builtin
                     go_loud (refine wpList_append_own_at _ rfl (.tmp 86) (.tmp 91) 36 rfl H 51 j0 _ 2 32 Try.underlying36 hj0 hy0 hy1 hy2 rfl (by decide) (.slice Aa m1 da) m1 _ rfl (HOA.out.alloc _) ⟨wa.heap.size, 0, none⟩ 1 1 [.int .u32 (src : Int), .slice (some ⟨g9, 0, none⟩) (m + 1) d9] rfl rfl (two_lit rfl) (fun u hu => by simp at hu; rcases hu with rfl | rfl <;> rfl) (by unfold maxLen; omega) (by omega) (by rw [World.size_alloc]; omega) ?_)
                     intro vz wz hoz hgz hnnz hnz
                     refine Classical.byContradiction fun hcontra => ?_)
        obtain ⟨Az, dz, hvz, hcz⟩ := own_slice' hoz
        subst hvz
        have hbz : Below w.heap.size w wz := (HBA.out.alloc HBA.out.size (.cells #[.int .u32 (src : Int), .slice (some ⟨g9, 0, none⟩) (m + 1) d9] 51)).grown hgz (by rw [World.size_alloc]; have := HBA.out.size; omega) (fun k e => by rw [← HHE.out]; exact (HOA.out.lt k e).1)
        have harz : wz.ownsRow H 59 2 (.slice (some ⟨g9, 0, none⟩) (m + 1) d9) (m + 1) (arcCells LL) := own_out HARW.out (((Out.refl (fun k => (Value.slice Aa m1 da).ownBlock = some k) wa).alloc (.cells #[.int .u32 (src : Int), .slice (some ⟨g9, 0, none⟩) (m + 1) d9] 51)).grown hgz (fun k e => .inl e)) (fun k k1 k2 => own_apart HOA.out HARW.out (by decide) k2 k1)
        have hrow : wz.ownsRow H 51 2 (.slice Az (m1 + 1) dz) (m1 + 1) (rvCells (vs.take m1 ++ [(src, some ⟨g9, 0, none⟩, (m + 1), d9)])) := by
          rw [rvCells_append]
          exact hoz
        have hrows : RowsAt wz lo wz.heap.size Az (rowM (addR ⟨src, dst, wgt⟩ (r :: l0))) := by
          rw [rowM_same HSAME.out, HLL.out, HSAME.out]
          have htl : (vs.take m1).length = (rowM l0).length := by rw [List.length_take, HV.out.2.1, HL.out.2, ← HL.out.1]; omega
          refine rows_own hrow (by have := HHE.out; omega) (by rw [List.length_append, List.length_append, htl]; rfl) (rwat_snoc htl (fun i p s hp hs => ?_) ⟨(fun b hb => by have := (harz.lt b.block (by rw [show some _ = some b from hb]; rfl)).1; have := HHE.out; omega), rfl, HX.out.1, HLW.out, ⟨(own_bounds harz).1, (own_bounds harz).2⟩, Cs.of_own harz, HFI.out⟩)
          have hi : i < (rowM l0).length := (List.getElem?_eq_some_iff.1 hs).1
          have hp' : vs[i]? = some p := by
            rw [List.getElem?_take] at hp
            split at hp
            · exact hp
            · cases hp
          have hs' : (rowM (r :: l0))[i]? = some s := by rw [rowM_cons, List.getElem?_append_left hi]; exact hs
          exact ((HV.out.2.2 i p s hp' hs').below hbz).more hbz.size
        have FIN := Lib.hid (show MwPost w lo (addR ⟨src, dst, wgt⟩ (r :: l0)) (.returned (.slice Az (m1 + 1) dz)) wz from ⟨Az, m1 + 1, dz, rfl, by rw [rowM_same HSAME.out, List.length_append, ← HL.out.1]; rfl, hcz, (own_bounds hrow).2, hrows, hbz⟩)
        clear hoz hgz hnnz hnz hbz harz hrow hrows hcz
        apply hcontra
        clear hcontra
        go_wp2
        go_ret
        exact FIN.out
end Go.Proofs.Ytniffijjdehnaaa
