/- Texts put together, for a law: MmD, MmE, MmF, MmH. -/
import Derived.Deep.RegionHeld3
import Derived.RegionTactic
import Derived.Test.YteaibgnelnblnaaKQ16
import Derived.Test.YteaibgnelnblnaaKQ19
import Derived.Test.YteaibgnelnblnaaKQ9
import Derived.Test.YteaibgnelnblnaaKQ4
section
namespace Go.Proofs.Yteaibgnelnblnaa
open Go.RowKit Me Tx Ed Mg Va

/-- The cells of what is known between two keys. -/
abbrev mgC (f s n c : Nat) (A : Option Addr) (y : EdD) : List Value := [.int .u32 (f : Int), .slice A n c, .int .u64 (s : Int), .int .u32 (y.src : Int), .int .u32 (y.dst : Int), .int .u32 (y.wgt : Int)]
/-- An edge more, in memory. -/
structure MaPost (w : World) (lo G f s n c : Nat) (A : Option Addr) (As : List ArcR) (x : EdD) (w' : World) : Prop where
  ex : ∃ A' n' c', Blk w' G (mgC f (s + x.wgt) n' c' A' x) ∧ w'.ownsRow lo 55 2 (.slice A' n' c') n' (arcCells (arcM (addA x As))) ∧ (arcM (addA x As)).length = n' ∧ ((Value.slice A' n' c').ownBlock = (Value.slice A n c).ownBlock ∨ ∃ k, (Value.slice A' n' c').ownBlock = some k ∧ w.heap.size ≤ k)
  out : Out (fun k => k = G ∨ (Value.slice A n c).ownBlock = some k) w w'
theorem marc_info : (Try.prog.info? 55).map (fun i => (i.zero, i.size, i.bytes)) = some (some (.agg #[.int .u32 0, .int .u32 0]), 2, 8) := by kernel_rfl
theorem marc_cells {a b : Nat} : ∀ u ∈ ([.int .u32 (a : Int), .int .u32 (b : Int)] : List Value), u.oneCell' = true := fun u hu => by
  simp at hu
  rcases hu with rfl | rfl <;> rfl
/-- How the search ends, where the end is not below the last one. -/
theorem stands_new {l : List ArcD} {tt r : Nat} {bb : Bool} (h : Stands l tt r bb) (hup : ∀ p ∈ l, p.to < tt) : r = l.length ∧ bb = false := by
  have hr : r = l.length := by
    rcases Nat.lt_or_ge r l.length with hlt | hge
    · have h1 := h.2.2.1 r l[r] (List.getElem?_eq_getElem hlt) (Nat.le_refl _)
      have h2 := hup l[r] (List.getElem_mem hlt)
      omega
    · have := h.1; omega
  refine ⟨hr, ?_⟩
  rw [h.2.2.2, hr, List.getElem?_eq_none (Nat.le_refl _)]
theorem stands_same {l : List ArcD} {p : ArcD} {tt r : Nat} {bb : Bool} (h : Stands (l ++ [p]) tt r bb) (hp : p.to = tt) (hup : ∀ q ∈ l, q.to < tt) : r = l.length ∧ bb = true := by
  have e : (l ++ [p])[l.length]? = some p := by rw [List.getElem?_append_right (Nat.le_refl _), Nat.sub_self]; rfl
  have hr : r = l.length := by
    rcases Nat.lt_trichotomy r l.length with hlt | he | hgt
    · have h0 : (l ++ [p])[r]? = some l[r] := by rw [List.getElem?_append_left hlt, List.getElem?_eq_getElem hlt]
      have h1 := h.2.2.1 r l[r] h0 (Nat.le_refl _)
      have h2 := hup l[r] (List.getElem_mem hlt)
      omega
    · exact he
    · have := h.2.1 l.length p e hgt
      omega
  refine ⟨hr, ?_⟩
  rw [h.2.2.2, hr, e]
  simp [hp]
/-- What the search answers. -/
theorem madd_find (A : Option Addr) (n c : Nat) (As : List ArcR) (x : EdD) (w : World) (hl : (arcM As).length = n) (hn : n ≤ 100000) {lo : Nat} (ho : w.ownsRow lo 55 2 (.slice A n c) n (arcCells (arcM As))) (hfit : ∀ p ∈ arcM As, p.fits) (hri : rises 0 (arcM As) = true) (hup : ∀ a A', As = a :: A' → a.dst ≤ x.dst ∧ (∀ p ∈ arcM A', p.to < x.dst)) :
    ∃ (r : Nat) (bb : Bool), ((bb = false ∧ r = n ∧ arcM (addA x As) = arcM As ++ [⟨x.dst, x.wgt⟩]) ∨ (bb = true ∧ r + 1 = n ∧ ∃ a A', As = a :: A' ∧ a.dst = x.dst ∧ (arcM A').length = r ∧ arcM (addA x As) = arcM A' ++ [⟨a.dst, a.wgt + x.wgt⟩] ∧ arcM As = arcM A' ++ [⟨a.dst, a.wgt⟩])) ∧
      ∀ W, Below w.heap.size w W → Calls Try.prog 39 #[.slice A n c, .int .u32 (x.dst : Int)] W fun e w' => e = .returned (.tuple #[.int .i64 (r : Int), .bool bb]) ∧ Below W.heap.size W w' := by
  have hC := fun W (hW : Below w.heap.size w W) => find_any A n c (arcM As) x.dst W hl (by omega) (Arcs.of_own (own_below' ho hW) hfit) hri
  cases As with
  | nil =>
    refine ⟨n, false, .inl ⟨rfl, rfl, rfl⟩, fun W hW => (hC W hW).mono ?_⟩
    rintro e w' ⟨r, bb, rfl, hs, hb⟩
    obtain ⟨rfl, rfl⟩ := stands_new hs (fun p hp => by cases hp)
    rw [hl]
    exact ⟨rfl, hb⟩
  | cons a A' =>
    have h1 := hup a A' rfl
    by_cases he : a.dst = x.dst
    · have hl2 : (arcM A').length + 1 = n := by rw [← hl, arcM_cons]; simp
      refine ⟨(arcM A').length, true, .inr ⟨rfl, hl2, a, A', rfl, he, rfl, by rw [addA, if_pos he, arcM_cons], arcM_cons a A'⟩, fun W hW => (hC W hW).mono ?_⟩
      rintro e w' ⟨r, bb, rfl, hs, hb⟩
      rw [arcM_cons] at hs
      obtain ⟨rfl, rfl⟩ := stands_same hs he h1.2
      exact ⟨rfl, hb⟩
    · refine ⟨n, false, .inl ⟨rfl, rfl, by rw [addA, if_neg he, show (⟨x.dst, x.wgt⟩ : ArcR) :: a :: A' = (⟨x.dst, x.wgt⟩ : ArcR) :: (a :: A') from rfl, arcM_cons]⟩, fun W hW => (hC W hW).mono ?_⟩
      rintro e w' ⟨r, bb, rfl, hs, hb⟩
      obtain ⟨rfl, rfl⟩ := stands_new hs (fun p hp => by
        rw [arcM_cons] at hp
        rcases List.mem_append.1 hp with hp | hp
        · exact h1.2 p hp
        · rw [List.mem_singleton.1 hp]
          have := h1.1
          show a.dst < x.dst
          omega)
      rw [hl]
      exact ⟨rfl, hb⟩
/-- What is known of each slot where the end is looked up. -/
def maG (G H n c xd r : Nat) (bb : Bool) (A : Option Addr) : Gw.Fact := fun t v _ =>
  match t with
  | 0 | 7 | 8 | 9 => v = .pointer (some ⟨G, 0, none⟩)
  | 10 => v = .pointer (some ⟨G, 1, none⟩)
  | 11 => v = .slice A n c
  | 3 => v = .pointer (some ⟨H, 0, none⟩)
  | 12 => v = .pointer (some ⟨H, 1, none⟩)
  | 13 => v = .int .u32 (xd : Int)
  | 14 | 6 => v = .tuple #[.int .i64 (r : Int), .bool bb]
  | 15 | 4 => v = .int .i64 (r : Int)
  | 16 | 5 => v = .bool bb
  | _ => True
/-- Where the arc is there, before it is given more. -/
structure MaMid (w : World) (lo G H f s n c r : Nat) (A : Option Addr) (As : List ArcR) (y x : EdD) (wx : World) : Prop where
  ex : ∃ (A5 : Option Addr) (n5 c5 : Nat) (M : List ArcD) (v : Nat), Blk wx G (mgC f s n5 c5 A5 y) ∧ wx.ownsRow lo 55 2 (.slice A5 n5 c5) n5 (arcCells (M ++ [⟨x.dst, v⟩])) ∧ M.length = r ∧ n5 = r + 1 ∧ arcM (addA x As) = M ++ [⟨x.dst, v + x.wgt⟩] ∧ v + x.wgt < 4294967296 ∧
    ((Value.slice A5 n5 c5).ownBlock = (Value.slice A n c).ownBlock ∨ ∃ k, (Value.slice A5 n5 c5).ownBlock = some k ∧ w.heap.size < k)
  num : Blk wx H [.int .u32 (x.src : Int), .int .u32 (x.dst : Int), .int .u32 (x.wgt : Int)]
  out : Out (fun k => k = G ∨ (Value.slice A n c).ownBlock = some k) w wx
set_option maxRecDepth 100000 in
set_option maxHeartbeats 4000000 in
theorem madd_any (lo G f s n c : Nat) (A : Option Addr) (As : List ArcR) (y x : EdD) (w : World) (hx : FitE x) (hb : Blk w G (mgC f s n c A y)) (ho : w.ownsRow lo 55 2 (.slice A n c) n (arcCells (arcM As)))
    (hG : G < lo) (hlo : lo ≤ w.heap.size) (hl : (arcM As).length = n) (hn : n ≤ 100000) (hfit : ∀ p ∈ arcM As, p.fits) (hri : rises 0 (arcM As) = true) (hup : ∀ a A', As = a :: A' → a.dst ≤ x.dst ∧ (∀ p ∈ arcM A', p.to < x.dst) ∧ a.wgt + x.wgt < 4294967296) (hs : s + x.wgt < 18446744073709551616) :
    Calls Try.prog 102 #[.pointer (some ⟨G, 0, none⟩), numV x] w fun e w' => e = .returned (.tuple #[]) ∧ MaPost w lo G f s n c A As x w' := by
  obtain ⟨H, hH⟩ : ∃ H, H = w.heap.size := ⟨_, rfl⟩
  obtain ⟨xs, xd, xw⟩ := x
  unfold numV
  obtain ⟨w0, hw0⟩ : ∃ w0, w0 = w.alloc (.cells #[.int .u32 (xs : Int), .int .u32 (xd : Int), .int .u32 (xw : Int)] 89) := ⟨_, rfl⟩
  have hb0 : Below w.heap.size w w0 := by rw [hw0]; exact (Below.refl _ _).alloc (Nat.le_refl _) _
  have BN := Lib.hid (show Blk w0 H [.int .u32 (xs : Int), .int .u32 (xd : Int), .int .u32 (xw : Int)] by rw [hw0, hH]; exact Blk.new w [.int .u32 (xs : Int), .int .u32 (xd : Int), .int .u32 (xw : Int)] _)
  have BG := Lib.hid (hb.past hb0)
  have OW := Lib.hid (own_below' ho hb0)
  obtain ⟨r, bb, hway, hfind⟩ := madd_find A n c As ⟨xs, xd, xw⟩ w0 hl hn (own_below' ho hb0) hfit hri (fun a A' e => ⟨(hup a A' e).1, (hup a A' e).2.1⟩)
  have HF := Lib.hid hfind
  have HWAY := Lib.hid hway
  have HW0 := Lib.hid hw0
  have HHE := Lib.hid hH
  have HB0 := Lib.hid hb0
  have HOR := Lib.hid ho
  have HG := Lib.hid (And.intro hG hlo)
  have HL := Lib.hid hl
  have HFT := Lib.hid hfit
  have HRI := Lib.hid hri
  have HUP := Lib.hid hup
  have HX := Lib.hid hx
  clear hw0 hH hb0 ho hb hG hlo hl hfit hri hup hx hway hfind
  have n1 := BN.out.cell (i := 1) rfl
  have g1 := BG.out.cell (i := 1) rfl
  go_enter Try.func102, Try.ntmps102
  go_upto_region 1 with fail
  rw [← HW0.out, ← HHE.out]
  refine Gw.wp_region_grow (maG G H n c xd r bb A) [7, 8, 9, 10, 11, 12, 13, 14, 6, 15, 16, 4, 5] [([0], none), ([7], none), ([8], none), ([9], none), ([10], none), ([3], none), ([12], none), ([11, 13], none), ([14], none), ([6], none), ([6], none), ([15], none), ([16], none)] 61 (by kernel_rfl) (by kernel_rfl) rfl ?h0 ?hreq ?hend
  case h0 =>
    intro t W hnd _
    unfold maG
    split <;> first | rfl | trivial | exact absurd (by simp) hnd
  case hreq =>
    refine ⟨?_, ?_, ?_, ?_, ?_, ?_, ?_, ?_, ?_, ?_, ?_, ?_, ?_, trivial⟩
    all_goals
      intro ac W hg hk
      have hg' : Below w0.heap.size w0 W := hg
      have z0 := (BN.out.past hg').cell (i := 1) rfl
      have z1 := (BG.out.past hg').cell (i := 1) rfl
      simp only [Gw.Knows, maG] at hk
      try (simp [go_sem, Gw.OpReq, Gw.Ok, Gw.Post, Gw.Holds, maG, Gw.Grows.refl, hk, z0, z1]; done)
    simp [go_sem, Gw.OpReq, Gw.Ok, Gw.Post, Gw.Holds, maG, Gw.Grows.refl, hk]
    refine (HF.out W hg').mono ?_
    rintro e W' ⟨rfl, hb4⟩
    exact ⟨_, rfl, hb4, fun _ _ => rfl⟩
  case hend =>
    intro v w1 hg hv
    have v4 := (hv 4 (by simp)).now
    have v5 := (hv 5 (by simp)).now
    simp only [maG] at v4 v5
    simp only [Gw.putAll, Act.put, List.setIfInBounds_toArray, List.set_cons_zero, List.set_cons_succ]
    rw [v4, v5]
    have HB1 := Lib.hid (show Below w0.heap.size w0 w1 from hg)
    clear hg hv v4 v5
    have BN1 := Lib.hid (BN.out.past HB1.out)
    have BG1 := Lib.hid (BG.out.past HB1.out)
    have OW1 := Lib.hid (own_below' OW.out HB1.out)
    have n0 := BN1.out.cell (i := 0) rfl
    have n1 := BN1.out.cell (i := 1) rfl
    have n2 := BN1.out.cell (i := 2) rfl
    have g1 := BG1.out.cell (i := 1) rfl
    have f1 := BG1.out.frozen 1
    obtain ⟨i0, hi0, hz0, hz1, hz2⟩ := info_parts marc_info
    go_upto_if 18 with fail
    go_cut [] (fun wx => Hid (MaMid w lo G H f s n c r A As y ⟨xs, xd, xw⟩ wx))
    case first =>
     rcases HWAY.out with ⟨rfl, rfl, hadd⟩ | ⟨rfl, hr1, hadd⟩
     · have HADD := Lib.hid hadd
       have HMX := Lib.hid (show r + 1 ≤ maxLen by unfold maxLen; omega)
       clear hadd
       obtain ⟨wa, hwa⟩ : ∃ wa, wa = (w1.alloc (.cells #[.int .u32 (xd : Int), .int .u32 0] 55)).drew := ⟨_, rfl⟩
       have hb1a : Below w1.heap.size w1 wa := by rw [hwa]; exact ((Below.refl _ _).alloc (Nat.le_refl _) _).drew
       have HBA := Lib.hid hb1a
       have OWA := Lib.hid (own_below' OW1.out hb1a)
       have HLO := Lib.hid (show lo ≤ wa.heap.size by have := HG.out.2; have := HB0.out.size; have := HB1.out.size; have := hb1a.size; omega)
       have HLIT := Lib.hid (show ∀ (j : Nat) (u : Value), ([.int .u32 (xd : Int), .int .u32 0] : List Value)[j]? = some u → wa.cell? ((⟨w1.heap.size, 0, none⟩ : Addr).add j) = some u from fun j u hj => by rw [hwa]; exact two_lit (w := w1) rfl j u hj)
       have HWA := Lib.hid hwa
       have HCE := Lib.hid (show ∀ u ∈ ([.int .u32 (xd : Int), .int .u32 0] : List Value), u.oneCell' = true from marc_cells (a := xd) (b := 0))
       have hgl := BG1.out.lt
       have hhl := BN1.out.lt
       have HGL := Lib.hid (show G < wa.heap.size by have := BG1.out.lt; have := hb1a.size; omega)
       clear hwa hb1a
       go_wp2_with fail
       go_region_law (go_loud (rw [← HWA.out]; refine step_append_both (w := wa) rfl (.tmp 24) (.tmp 28) 36 rfl lo 55 i0 _ 2 8 Try.underlying36 hi0 hz0 hz1 hz2 rfl (by decide) A r c _ (by simp [Act.eval]) OWA.out ⟨w1.heap.size, 0, none⟩ 1 1 [.int .u32 (xd : Int), .int .u32 0] (by simp [Act.eval]) rfl HLIT.out HCE.out (by decide) HMX.out (by omega) HLO.out ?_)
                      intro v6 w6 ho6 hg6 hn6 hfit6
                      obtain ⟨A7, d7, rfl, hnd7⟩ := own_slice' ho6
                      have hne6 : (Value.slice A r c).ownBlock ≠ some G := fun e => by have := (OWA.out.lt G e).1; have := HG.out.1; omega
                      have hb6 := (BG1.out.past HBA.out).grown hg6 hne6
                      have e7 := hb6.cell (i := 1) rfl
                      have y7 := hb6.frozen 1
                      have HO6 := Lib.hid (And.intro ho6 (And.intro hg6 (And.intro hn6 hb6)))
                      clear ho6 hg6 hn6 hfit6 hb6 hne6)

       all_goals
         go_wp2_with fail
         go_meet
         obtain ⟨ho6, hg6, hn6, hb6⟩ := HO6.out
         have hne6 : (Value.slice A r c).ownBlock ≠ some H := fun e => by have := (HOR.out.lt H e).2; have := HHE.out; omega
         have hgh : G ≠ H := by have := HG.out; have := HHE.out; omega
         refine Lib.hid ⟨⟨A7, r + 1, d7, arcM As, 0, hb6.set 1 _, ?_, HL.out, rfl, ?_, ?_, ?_⟩, ?_, ?_⟩
         · rw [arcCells_append]
           exact ownsRow_setCell_below ho6 (a := ⟨G, 1, none⟩) HG.out.1 _
         · rw [HADD.out, Nat.zero_add]
         · have := HX.out.2.2; simpa using this
         · rcases hn6 with h | h
           · exact .inl h
           · exact .inr ⟨_, h, by have := HHE.out; have := BN.out.lt; have := HB1.out.size; have := HBA.out.size; omega⟩
         · exact (((BN1.out.past HBA.out).grown hg6 hne6).other (p := ⟨G, 1, none⟩) hgh _)
         · have hbw : Below w.heap.size w wa := HB0.out.trans ((HB1.out.trans (HBA.out.mono HB1.out.size)).mono HB0.out.size)
           exact ((Out.of_below hbw).grown hg6 (fun k e => .inl (.inr e))).setCell (p := ⟨G, 1, none⟩) (.inl (.inl rfl)) _
     · obtain ⟨a, A', hA', hda, hlA, hadd2, hasm⟩ := hadd
       have HADD := Lib.hid (And.intro hA' (And.intro hda (And.intro hlA (And.intro hadd2 hasm))))
       have HR1 := Lib.hid hr1
       clear hA' hda hlA hadd2 hasm hr1
       go_wp2_with fail
       go_meet
       obtain ⟨hA', hda, hlA, hadd2, hasm⟩ := HADD.out
       refine Lib.hid ⟨⟨A, n, c, arcM A', a.wgt, BG1.out, ?_, hlA, HR1.out.symm, ?_, ?_, .inl rfl⟩, BN1.out, ?_⟩
       · have := OW1.out
         rw [hasm, hda] at this
         exact this
       · rw [hadd2, hda]
       · exact (HUP.out a A' hA').2.2
       · exact Out.of_below (HB0.out.trans (HB1.out.mono HB0.out.size))
    case rest =>
      obtain ⟨⟨A5, n5, c5, M, v0, hbG, hown, hMl, hn5, harc, hv0, hloc⟩, hbH, hout⟩ := hcut.out
      obtain ⟨g, cap, hform, hgb, -⟩ := hown.form (by omega)
      injection hform with h1 h2 h3
      subst h1 h3
      have hgG : G ≠ g := by have := HG.out; omega
      have hcell : arcCells (M ++ [⟨xd, v0⟩]) = arcCells M ++ [.int .u32 (xd : Int), .int .u32 (v0 : Int)] := by rw [arcCells_append]; rfl
      have hlen : (arcCells M).length = r * 2 := by rw [arcCells_length, hMl]
      have w0c : wc.cell? ⟨g, r * 2 + 1, none⟩ = some (.int .u32 (v0 : Int)) := by
        have := hown.cellAt (r * 2 + 1) (by omega)
        rw [this, hcell, List.getElem?_append_right (by omega), show r * 2 + 1 - (arcCells M).length = 1 by omega]
        rfl
      have w0f : wc.frozen? ⟨g, r * 2 + 1, none⟩ = false := hown.frozenAt _
      have m1 := hbG.cell (i := 1) rfl
      have k2 := hbH.cell (i := 2) rfl
      have k0 := hbH.cell (i := 0) rfl
      have k1 := hbH.cell (i := 1) rfl
      replace hv0 : v0 + xw < 4294967296 := hv0
      obtain ⟨u, hu⟩ : ∃ u, u = v0 + xw := ⟨_, rfl⟩
      have hwr : IntKind.u32.wrap ((v0 : Int) + (xw : Int)) = (u : Int) := by rw [IntKind.wrap_u32]; omega
      have HU := Lib.hid hu
      have HMID := Lib.hid (And.intro hbG (And.intro hown (And.intro hbH hout)))
      have HMQ := Lib.hid (And.intro hMl (And.intro harc (And.intro hloc (And.intro hgG (And.intro hcell hlen)))))
      have hr5 : r < n5 := by omega
      have hr5' : (r : Int) < (n5 : Int) := by omega
      have hr50 : (0 : Int) ≤ (r : Int) := by omega
      have HN5 := Lib.hid hn5
      clear hcut hbG hown hbH hout hMl harc hloc hgG hcell hlen hgb hu hv0 hn5 n0 n1 n2 g1 f1
      go_wp2_with fail
      go_region
      obtain ⟨wd, hwd⟩ : ∃ wd, wd = (wc.setCell ⟨g, r * 2 + 1, none⟩ (.int .u32 (u : Int))).drew := ⟨_, rfl⟩
      have hgh : g ≠ H := by
        rcases HMQ.out.2.2.1 with h | ⟨k, h, hk⟩
        · have h2 := (HOR.out.lt g (by rw [← h]; rfl)).2; have := HHE.out; omega
        · have h' : some g = some k := h
          injection h' with h'
          have := HHE.out; omega
      have BD := Lib.hid (show Blk wd G (mgC f s n5 c5 (some ⟨g, 0, none⟩) y) by rw [hwd]; exact HMID.out.1.other (p := ⟨g, r * 2 + 1, none⟩) (Ne.symm HMQ.out.2.2.2.1) _)
      have BH := Lib.hid (show Blk wd H [.int .u32 (xs : Int), .int .u32 (xd : Int), .int .u32 (xw : Int)] by rw [hwd]; exact HMID.out.2.2.1.other (p := ⟨g, r * 2 + 1, none⟩) hgh _)
      have OD := Lib.hid (show wd.ownsRow lo 55 2 (.slice (some ⟨g, 0, none⟩) n5 c5) n5 (arcCells (M ++ [⟨xd, u⟩])) by
        have h1 := (HMID.out.2.1.stored (r * 2 + 1) (.int .u32 (u : Int))).1
        obtain ⟨-, -, -, -, hce, hle⟩ := HMQ.out
        rw [hce, List.set_append_right _ _ (by omega), show r * 2 + 1 - (arcCells M).length = 1 by omega] at h1
        rw [hwd, arcCells_append]
        exact own_below' h1 (Below.refl _ _).drew)
      have OUD := Lib.hid (show Out (fun k => k = G ∨ (Value.slice A n c).ownBlock = some k) w wd by
        rw [hwd]
        refine (HMID.out.2.2.2.setCell (p := ⟨g, r * 2 + 1, none⟩) ?_ _).trans (out_drew _ _)
        rcases HMQ.out.2.2.1 with h | ⟨k, h, hk⟩
        · exact .inl (.inr (by rw [← h]; rfl))
        · have h' : some g = some k := h
          injection h' with h'
          exact .inr (by show w.heap.size ≤ g; omega))
      have HWD := Lib.hid hwd
      rw [← HWD.out]
      clear hwd m1 k0 k1 k2 w0c w0f hwr
      have m2 := BD.out.cell (i := 2) rfl
      have q2 := BD.out.frozen 2
      have k2 := BH.out.cell (i := 2) rfl
      obtain ⟨z, hz⟩ : ∃ z, z = s + xw := ⟨_, rfl⟩
      have hwr : IntKind.u64.wrap ((s : Int) + (xw : Int)) = (z : Int) := by rw [IntKind.wrap_u64]; omega
      have hwx : IntKind.u64.wrap (xw : Int) = (xw : Int) := by rw [IntKind.wrap_u64]; omega
      have HZ := Lib.hid hz
      clear hz
      go_wp2_with fail
      go_region
      obtain ⟨we, hwe⟩ : ∃ we, we = (wd.setCell ⟨G, 2, none⟩ (.int .u64 (z : Int))).drew := ⟨_, rfl⟩
      have hGH : G ≠ H := by have := HG.out; have := HHE.out; omega
      have BE := Lib.hid (show Blk we G (mgC f z n5 c5 (some ⟨g, 0, none⟩) y) by rw [hwe]; exact BD.out.set 2 _)
      have BI := Lib.hid (show Blk we H [.int .u32 (xs : Int), .int .u32 (xd : Int), .int .u32 (xw : Int)] by rw [hwe]; exact BH.out.other (p := ⟨G, 2, none⟩) hGH _)
      have OE := Lib.hid (show we.ownsRow lo 55 2 (.slice (some ⟨g, 0, none⟩) n5 c5) n5 (arcCells (M ++ [⟨xd, u⟩])) by rw [hwe]; exact own_below' (ownsRow_setCell_below OD.out (a := ⟨G, 2, none⟩) HG.out.1 _) (Below.refl _ _).drew)
      have OUE := Lib.hid (show Out (fun k => k = G ∨ (Value.slice A n c).ownBlock = some k) w we by rw [hwe]; exact (OUD.out.setCell (p := ⟨G, 2, none⟩) (.inl (.inl rfl)) _).trans (out_drew _ _))
      have HWE := Lib.hid hwe
      rw [← HWE.out]
      clear hwe m2 q2 k2 hwr hwx
      have k0 := BI.out.cell (i := 0) rfl
      have k1 := BI.out.cell (i := 1) rfl
      have k2 := BI.out.cell (i := 2) rfl
      have m3 := BE.out.cell (i := 3) rfl
      have m4 := BE.out.cell (i := 4) rfl
      have m5 := BE.out.cell (i := 5) rfl
      have q3 := BE.out.frozen 3
      have q4 := BE.out.frozen 4
      have q5 := BE.out.frozen 5
      go_wp2_with fail
      go_end0
      obtain ⟨hMl, harc, hloc, -, -, -⟩ := HMQ.out
      refine ⟨rfl, ⟨some ⟨g, 0, none⟩, n5, c5, ?_, ?_, ?_, ?_⟩, ?_⟩
      · have h3 := ((BE.out.set 3 (.int .u32 (xs : Int))).set 4 (.int .u32 (xd : Int))).set 5 (.int .u32 (xw : Int))
        rw [HZ.out] at h3
        exact h3
      · rw [harc]
        have h4 := ownsRow_setCell_below (ownsRow_setCell_below (ownsRow_setCell_below OE.out (a := ⟨G, 3, none⟩) HG.out.1 (.int .u32 (xs : Int))) (a := ⟨G, 4, none⟩) HG.out.1 (.int .u32 (xd : Int))) (a := ⟨G, 5, none⟩) HG.out.1 (.int .u32 (xw : Int))
        rw [HU.out] at h4
        exact h4
      · rw [harc, List.length_append, hMl, HN5.out]; rfl
      · rcases hloc with h | ⟨k, h, hk⟩
        · exact .inl h
        · exact .inr ⟨k, h, by omega⟩
      · exact ((OUE.out.setCell (p := ⟨G, 3, none⟩) (.inl (.inl rfl)) _).setCell (p := ⟨G, 4, none⟩) (.inl (.inl rfl)) _).setCell (p := ⟨G, 5, none⟩) (.inl (.inl rfl)) _
end Go.Proofs.Yteaibgnelnblnaa
end
section
namespace Go.Proofs.Yteaibgnelnblnaa
open Go.RowKit Me Tx Ed Mg Va

/-- The row that is under way. -/
def mh : List RowR → Nat × List ArcR
  | [] => (0, [])
  | r :: _ => (r.src, r.arcs)
/-- What is known between two keys, in memory. -/
structure MrgAt (w : World) (lo G : Nat) (rows : List RowR) (last : Option EdD) (A : Option Addr) (n c : Nat) : Prop where
  box : Blk w G (mgC (mh rows).1 (sumA (mh rows).2) n c A (last.getD ⟨0, 0, 0⟩))
  own : w.ownsRow lo 55 2 (.slice A n c) n (arcCells (arcM (mh rows).2))
  len : (arcM (mh rows).2).length = n
  low : G < lo
  lim : lo ≤ w.heap.size
theorem MrgAt.past {w w' : World} {lo G : Nat} {rows : List RowR} {last : Option EdD} {A : Option Addr} {n c : Nat} (h : MrgAt w lo G rows last A n c) (hb : Below w.heap.size w w') : MrgAt w' lo G rows last A n c :=
  ⟨h.box.past hb, own_below' h.own hb, h.len, h.low, Nat.le_trans h.lim hb.size⟩
/-- What holds of it. -/
structure MkOk (rows : List RowR) (last : Option EdD) (k : Nat) : Prop where
  keys : KeysOk rows last k
  ok : RowsOk rows
  front : ∀ y, last = some y → Front rows y
  fit : ∀ r ∈ rows, r.src < 4294967296 ∧ ∀ a ∈ r.arcs, a.dst < 4294967296
set_option maxRecDepth 100000 in
theorem msum_any (G f s n c : Nat) (A : Option Addr) (y : EdD) (x : Nat) (w : World) (hb : Blk w G (mgC f s n c A y)) :
    Calls Try.prog 109 #[.pointer (some ⟨G, 0, none⟩), .int .u32 (x : Int)] w fun e w' => e = .returned (.int .u64 ((if f = x then s else 0 : Nat) : Int)) ∧ Below w.heap.size w w' := by
  have g0 := hb.cell (i := 0) rfl
  have g2 := hb.cell (i := 2) rfl
  by_cases h : f = x
  · subst h
    have d0 : ((f : Int) != (f : Int)) = false := by simp
    go_enter Try.func109, Try.ntmps109
    go_wp2
    go_ret
    exact ⟨by simp, Below.refl _ _⟩
  · have d0 : ((x : Int) != (f : Int)) = true := by simp; omega
    go_enter Try.func109, Try.ntmps109
    go_wp2
    go_ret
    exact ⟨by simp [h], Below.refl _ _⟩
theorem blk_cs {w : World} {G k : Nat} {cs : List Value} {l : List Nat} (h : Blk w G cs) (hl : ∀ (i x : Nat), l[i]? = some x → cs[k + i]? = some (.int .u32 (x : Int))) : Cs w w.heap.size (some ⟨G, k, none⟩) (nCells l) := fun _ => by
  refine ⟨_, rfl, h.lt, fun i v hv => ?_⟩
  unfold nCells at hv
  rw [List.getElem?_map] at hv
  cases hx : l[i]? with
  | none => rw [hx] at hv; cases hv
  | some x =>
    rw [hx] at hv
    injection hv with hv
    subst hv
    have := h.cell (hl i x hx)
    unfold Addr.add
    split
    · rename_i he
      rw [he, Nat.add_zero] at this
      exact this
    · exact this
/-- What is known of each slot where a key is compared with the one ahead of it. -/
def mnG (G N : Nat) (z : Int) (b : Bool) : Gw.Fact := fun t v _ =>
  match t with
  | 0 | 24 | 25 => v = .pointer (some ⟨G, 0, none⟩)
  | 6 => v = .pointer (some ⟨N, 0, none⟩)
  | 23 => v = .slice (some ⟨N, 0, none⟩) 3 3
  | 26 => v = .pointer (some ⟨G, 3, none⟩)
  | 27 => v = .slice (some ⟨G, 3, none⟩) 3 3
  | 28 => v = .int .i64 z
  | 29 | 22 => v = .bool b
  | _ => True
/-- .. where the sum is taken. -/
def mnH (G N xs xw s t : Nat) (b : Bool) : Gw.Fact := fun k v _ =>
  match k with
  | 0 | 32 => v = .pointer (some ⟨G, 0, none⟩)
  | 6 | 33 => v = .pointer (some ⟨N, 0, none⟩)
  | 34 => v = .int .u32 (xs : Int)
  | 35 => v = .int .u64 (s : Int)
  | 36 => v = .pointer (some ⟨N, 2, none⟩)
  | 37 => v = .int .u32 (xw : Int)
  | 38 => v = .int .u64 (xw : Int)
  | 39 => v = .int .u64 (t : Int)
  | 40 | 31 => v = .bool b
  | _ => True
/-- The next key's numbers, or its error. -/
def NxPost (w : World) (rows : List RowR) (last : Option EdD) (b : List UInt8) (e : Ending) (w' : World) : Prop :=
  ∃ x : EdD, e = .returned (.tuple #[numV x, .int .i64 (errK rows last b)]) ∧ (errK rows last b = 0 → b.length = 12 ∧ x = edB b) ∧ Below w.heap.size w w'
set_option maxRecDepth 100000 in
set_option maxHeartbeats 4000000 in
theorem mnext_any (lo G n c : Nat) (A : Option Addr) (rows : List RowR) (last : Option EdD) (k : Nat) (K : Option Addr) (kn kc : Nat) (b : List UInt8) (w : World) (h : MrgAt w lo G rows last A n c) (hok : MkOk rows last k) (hl : b.length = kn) (hr : Rd w w.heap.size K b) :
    Calls Try.prog 101 #[.pointer (some ⟨G, 0, none⟩), .slice K kn kc] w (NxPost w rows last b) := by
  obtain ⟨H, hH⟩ : ∃ H, H = w.heap.size := ⟨_, rfl⟩
  obtain ⟨w0, hw0⟩ : ∃ w0, w0 = w.alloc (.cells #[.int .u32 0, .int .u32 0, .int .u32 0] 89) := ⟨_, rfl⟩
  have hb0 : Below w.heap.size w w0 := by rw [hw0]; exact (Below.refl _ _).alloc (Nat.le_refl _) _
  have BZ := Lib.hid (show Blk w0 H [.int .u32 0, .int .u32 0, .int .u32 0] by rw [hw0, hH]; exact Blk.new w [.int .u32 0, .int .u32 0, .int .u32 0] _)
  have HD := Lib.hid (mdec_post K kn kc b w0 hl ((hr.below hb0).more hb0.size))
  have HW0 := Lib.hid hw0
  have HHE := Lib.hid hH
  have HB0 := Lib.hid hb0
  obtain ⟨f, hf⟩ : ∃ f, f = (mh rows).1 := ⟨_, rfl⟩
  obtain ⟨s, hs⟩ : ∃ s, s = sumA (mh rows).2 := ⟨_, rfl⟩
  obtain ⟨y, hy⟩ : ∃ y, y = last.getD ⟨0, 0, 0⟩ := ⟨_, rfl⟩
  have BG := h.box.past hb0
  rw [← hf, ← hs, ← hy] at BG
  replace BG := Lib.hid BG
  have HS31 : s ≤ 2147483647 := by
    rw [hs]
    cases rows with
    | nil => exact Nat.zero_le _
    | cons r l => exact hok.keys.sum r l rfl
  have HU := Lib.hid (show ∀ x, under last x = lowE x y by
    intro x
    rw [hy]
    cases last with
    | none => show false = _; unfold lowE; simp
    | some z => rfl)
  have HHR := Lib.hid (show ∀ x : EdD, hasR x rows = if f = x.src then s else 0 by
    intro x
    rw [hf, hs]
    cases rows with
    | nil => simp [hasR, mh, sumA]
    | cons r l => rfl)
  have HL := Lib.hid hl
  clear hw0 hH hb0 hl hr h hok hf hs hy
  go_enter Try.func101, Try.ntmps101
  go_upto_region 1 with fail
  rw [← HW0.out, ← HHE.out]
  go_wp2_with fail
  refine HD.out.mono ?_
  rintro e w1 ⟨⟨x0, x1, x2⟩, z, rfl, hk, hb1⟩
  have HB1 := Lib.hid hb1
  have HK := Lib.hid hk
  clear HD hb1 hk
  unfold numV
  obtain ⟨w2, hw2⟩ : ∃ w2, w2 = w1.alloc (.cells #[.int .u32 (x0 : Int), .int .u32 (x1 : Int), .int .u32 (x2 : Int)] 89) := ⟨_, rfl⟩
  obtain ⟨N, hN⟩ : ∃ N, N = w1.heap.size := ⟨_, rfl⟩
  have HB2 := Lib.hid (show Below w0.heap.size w0 w2 from by rw [hw2]; exact HB1.out.alloc HB1.out.size _)
  have BN := Lib.hid (show Blk w2 N [.int .u32 (x0 : Int), .int .u32 (x1 : Int), .int .u32 (x2 : Int)] from by rw [hw2, hN]; exact Blk.new w1 [.int .u32 (x0 : Int), .int .u32 (x1 : Int), .int .u32 (x2 : Int)] _)
  have HW2 := Lib.hid hw2
  have HNE := Lib.hid hN
  clear hw2 hN
  go_upto_region 2 with fail
  rw [← HW2.out, ← HNE.out]
  have n0 := BN.out.cell (i := 0) rfl
  have n1 := BN.out.cell (i := 1) rfl
  have n2 := BN.out.cell (i := 2) rfl
  have BZ2 := Lib.hid (BZ.out.past HB2.out)
  have BG2 := Lib.hid (BG.out.past HB2.out)
  have HLOW := Lib.hid (HB0.out.trans (HB2.out.mono HB0.out.size))
  rcases HK.out with ⟨h12, hx, rfl⟩ | ⟨h12, hx, rfl⟩
  · have HX := Lib.hid hx
    have HB12 := Lib.hid (show b.length = 12 from HL.out.trans h12)
    clear hx h12
    by_cases hz : x2 = 0
    · have d0 : ((x2 : Int) == 0) = true := by simp [hz]
      have HERR := Lib.hid (show errK rows last b = 3 by unfold errK; rw [if_pos (.inr (by rw [← HX.out]; exact hz))])
      clear hz
      go_wp2_with (refine wpList_store_blk rfl 89 _ _ rfl H _ #[.int .u32 0, .int .u32 0, .int .u32 0] rfl rfl BZ2.out rfl num_size (ed_one 0 0 0) ?_
                   intro w7 hb7 ho7
                   have HB7 := Lib.hid hb7
                   have HO7 := Lib.hid ho7
                   clear hb7 ho7)
      have r0 := HB7.out.cell (i := 0) rfl
      have r1 := HB7.out.cell (i := 1) rfl
      have r2 := HB7.out.cell (i := 2) rfl
      refine bodyPost_ret (v := .tuple #[numV ⟨0, 0, 0⟩, .int .i64 3]) (by simp [results, Try.results101, go_sem, r0, r1, r2, numV]) rfl ?_
      exact ⟨⟨0, 0, 0⟩, by rw [HERR.out], fun e => (by rw [HERR.out] at e; cases e), HLOW.out.trans (HO7.out.below (fun k _ e => by have := HHE.out; omega) HLOW.out.size)⟩
    · have d0 : ((x2 : Int) == 0) = false := by simp; omega
      have HC := Lib.hid (show ∀ W, Below w2.heap.size w2 W → Calls Try.prog 108 #[.slice (some ⟨N, 0, none⟩) 3 3, .slice (some ⟨G, 3, none⟩) 3 3] W fun e w' => e = .returned (.int .i64 (cmpL (edL ⟨x0, x1, x2⟩) (edL y))) ∧ w' = W from fun W hW => by
        refine compare_any _ _ 3 3 3 (edL ⟨x0, x1, x2⟩) (edL y) W (by omega) rfl rfl (blk_cs (k := 0) (BN.out.past hW) fun i x hx => ?_) (blk_cs (k := 3) (BG2.out.past hW) fun i x hx => ?_)
        · unfold edL at hx
          match i, hx with
          | 0, hx => injection hx with hx; rw [← hx]; rfl
          | 1, hx => injection hx with hx; rw [← hx]; rfl
          | 2, hx => injection hx with hx; rw [← hx]; rfl
        · unfold edL at hx
          match i, hx with
          | 0, hx => injection hx with hx; rw [← hx]; rfl
          | 1, hx => injection hx with hx; rw [← hx]; rfl
          | 2, hx => injection hx with hx; rw [← hx]; rfl)
      obtain ⟨z, hze⟩ : ∃ z, z = cmpL (edL ⟨x0, x1, x2⟩) (edL y) := ⟨_, rfl⟩
      rw [← hze] at HC
      obtain ⟨q, hq⟩ : ∃ q, decide (z < 0) = q := ⟨_, rfl⟩
      have HQ := Lib.hid (show under last (edB b) = q by rw [← HX.out, HU.out, ← cmpL_low, ← hze, hq])
      have HZ0 := Lib.hid (show ¬ (b.length ≠ 12 ∨ (edB b).wgt = 0) from fun h => h.elim (fun h => h HB12.out) (fun h => hz (by rw [← HX.out] at h; exact h)))
      clear hze hz
      go_upto_region 4 with fail
      refine Gw.wp_region_grow (mnG G N z q) [23, 24, 25, 26, 27, 28, 29, 22] [([6], none), ([0], none), ([24], none), ([25], none), ([26], none), ([23, 27], none), ([28], none), ([29], none)] 43 (by kernel_rfl) (by kernel_rfl) rfl ?h0 ?hreq ?hend
      case h0 =>
        intro t W hnd _
        unfold mnG
        split <;> first | rfl | trivial | exact absurd (by simp) hnd
      case hreq =>
        refine ⟨?_, ?_, ?_, ?_, ?_, ?_, ?_, ?_, trivial⟩
        all_goals
          intro ac W hg hk
          simp only [Gw.Knows, mnG] at hk
          try (simp [go_sem, Gw.OpReq, Gw.Ok, Gw.Post, Gw.Holds, mnG, Gw.Grows.refl, hk, hq]; done)
        simp [go_sem, Gw.OpReq, Gw.Ok, Gw.Post, Gw.Holds, mnG, Gw.Grows.refl, hk]
        refine (HC.out W hg).mono ?_
        rintro e W' ⟨rfl, rfl⟩
        exact ⟨_, rfl, Gw.Grows.refl _, fun _ _ => rfl⟩
      case hend =>
        intro v w3 hg hv
        have v22 := (hv 22 (by simp)).now
        simp only [mnG] at v22
        simp only [Gw.putAll, Act.put, List.setIfInBounds_toArray, List.set_cons_zero, List.set_cons_succ]
        rw [v22]
        have HB3 := Lib.hid (show Below w2.heap.size w2 w3 from hg)
        clear hg hv v22 n0 n1 n2 hq
        have BZ3 := Lib.hid (BZ2.out.past HB3.out)
        have BG3 := Lib.hid (BG2.out.past HB3.out)
        have BN3 := Lib.hid (BN.out.past HB3.out)
        have HLOW3 := Lib.hid (HLOW.out.trans (HB3.out.mono HLOW.out.size))
        cases q with
        | true =>
          have HERR := Lib.hid (show errK rows last b = 13 by unfold errK; rw [if_neg HZ0.out, if_pos HQ.out])
          go_wp2_with (refine wpList_store_blk rfl 89 _ _ rfl H _ #[.int .u32 0, .int .u32 0, .int .u32 0] rfl rfl BZ3.out rfl num_size (ed_one 0 0 0) ?_
                       intro w7 hb7 ho7
                       have HB7 := Lib.hid hb7
                       have HO7 := Lib.hid ho7
                       clear hb7 ho7)
          have r0 := HB7.out.cell (i := 0) rfl
          have r1 := HB7.out.cell (i := 1) rfl
          have r2 := HB7.out.cell (i := 2) rfl
          refine bodyPost_ret (v := .tuple #[numV ⟨0, 0, 0⟩, .int .i64 13]) (by simp [results, Try.results101, go_sem, r0, r1, r2, numV]) rfl ?_
          exact ⟨⟨0, 0, 0⟩, by rw [HERR.out], fun e => (by rw [HERR.out] at e; cases e), HLOW3.out.trans (HO7.out.below (fun k _ e => by have := HHE.out; omega) HLOW3.out.size)⟩
        | false =>
          obtain ⟨s1, hs1⟩ : ∃ s1, s1 = if f = x0 then s else 0 := ⟨_, rfl⟩
          have hs31 : s1 ≤ 2147483647 := by rw [hs1]; have := HS31; split <;> omega
          have HSM := Lib.hid (show ∀ W, Below w3.heap.size w3 W → Calls Try.prog 109 #[.pointer (some ⟨G, 0, none⟩), .int .u32 (x0 : Int)] W fun e w' => e = .returned (.int .u64 (s1 : Int)) ∧ Below W.heap.size W w' from fun W hW => by
            rw [hs1]; exact msum_any G f s n c A y x0 W (BG3.out.past hW))
          have hx2 : x2 < 4294967296 := by have := (edB_fit b).2.2; rw [← HX.out] at this; exact this
          obtain ⟨t, ht⟩ : ∃ t, t = s1 + x2 := ⟨_, rfl⟩
          have hw1 : IntKind.u64.wrap (x2 : Int) = (x2 : Int) := by rw [IntKind.wrap_u64]; omega
          have hw2 : IntKind.u64.wrap ((s1 : Int) + (x2 : Int)) = (t : Int) := by rw [IntKind.wrap_u64]; omega
          obtain ⟨q, hq⟩ : ∃ q, decide ((2147483647 : Int) < (t : Int)) = q := ⟨_, rfl⟩
          have HT := Lib.hid (show (2147483647 < hasR (edB b) rows + (edB b).wgt) ↔ q = true by
            rw [← HX.out, HHR.out, ← hq, decide_eq_true_eq]
            show 2147483647 < (if f = x0 then s else 0) + x2 ↔ _
            rw [← hs1, ← ht]
            omega)
          clear hs1 ht hs31 hx2
          go_upto_region 6 with fail
          refine Gw.wp_region_grow (mnH G N x0 x2 s1 t q) [32, 33, 34, 35, 36, 37, 38, 39, 40, 31] [([0], none), ([6], none), ([33], none), ([32, 34], none), ([6], none), ([36], none), ([37], none), ([35, 38], none), ([39], none), ([40], none)] 43 (by kernel_rfl) (by kernel_rfl) rfl ?h0 ?hreq ?hend
          case h0 =>
            intro t W hnd _
            unfold mnH
            split <;> first | rfl | trivial | exact absurd (by simp) hnd
          case hreq =>
            refine ⟨?_, ?_, ?_, ?_, ?_, ?_, ?_, ?_, ?_, ?_, trivial⟩
            all_goals
              intro ac W hg hk
              have z0 := (BN3.out.past hg).cell (i := 0) rfl
              have z2 := (BN3.out.past hg).cell (i := 2) rfl
              simp only [Gw.Knows, mnH] at hk
              try (simp [go_sem, Gw.OpReq, Gw.Ok, Gw.Post, Gw.Holds, mnH, Gw.Grows.refl, hk, hq, z0, z2, hw1, hw2]; done)
            simp [go_sem, Gw.OpReq, Gw.Ok, Gw.Post, Gw.Holds, mnH, Gw.Grows.refl, hk]
            refine (HSM.out W hg).mono ?_
            rintro e W' ⟨rfl, hb4⟩
            exact ⟨_, rfl, hb4, fun _ _ => rfl⟩
          case hend =>
            intro v w4 hg hv
            have v31 := (hv 31 (by simp)).now
            simp only [mnH] at v31
            simp only [Gw.putAll, Act.put, List.setIfInBounds_toArray, List.set_cons_zero, List.set_cons_succ]
            rw [v31]
            have HB4 := Lib.hid (show Below w3.heap.size w3 w4 from hg)
            clear hg hv v31 hq hw1 hw2
            have BZ4 := Lib.hid (BZ3.out.past HB4.out)
            have BN4 := Lib.hid (BN3.out.past HB4.out)
            have HLOW4 := Lib.hid (HLOW3.out.trans (HB4.out.mono HLOW3.out.size))
            cases q with
            | true =>
              have HERR := Lib.hid (show errK rows last b = 10 by unfold errK; rw [if_neg HZ0.out, if_neg (by rw [HQ.out]; simp), if_pos (HT.out.2 rfl)])
              go_wp2_with (refine wpList_store_blk rfl 89 _ _ rfl H _ #[.int .u32 0, .int .u32 0, .int .u32 0] rfl rfl BZ4.out rfl num_size (ed_one 0 0 0) ?_
                           intro w7 hb7 ho7
                           have HB7 := Lib.hid hb7
                           have HO7 := Lib.hid ho7
                           clear hb7 ho7)
              have r0 := HB7.out.cell (i := 0) rfl
              have r1 := HB7.out.cell (i := 1) rfl
              have r2 := HB7.out.cell (i := 2) rfl
              refine bodyPost_ret (v := .tuple #[numV ⟨0, 0, 0⟩, .int .i64 10]) (by simp [results, Try.results101, go_sem, r0, r1, r2, numV]) rfl ?_
              exact ⟨⟨0, 0, 0⟩, by rw [HERR.out], fun e => (by rw [HERR.out] at e; cases e), HLOW4.out.trans (HO7.out.below (fun k _ e => by have := HHE.out; omega) HLOW4.out.size)⟩
            | false =>
              have HERR := Lib.hid (show errK rows last b = 0 by unfold errK; rw [if_neg HZ0.out, if_neg (by rw [HQ.out]; simp), if_neg (fun h => by have := HT.out.1 h; cases this)])
              have n0 := BN4.out.cell (i := 0) rfl
              have n1 := BN4.out.cell (i := 1) rfl
              have n2 := BN4.out.cell (i := 2) rfl
              go_wp2_with (refine wpList_store_blk rfl 89 _ _ rfl H _ #[.int .u32 (x0 : Int), .int .u32 (x1 : Int), .int .u32 (x2 : Int)] rfl rfl BZ4.out rfl num_size (ed_one _ _ _) ?_
                           intro w7 hb7 ho7
                           have HB7 := Lib.hid hb7
                           have HO7 := Lib.hid ho7
                           clear hb7 ho7)
              have r0 := HB7.out.cell (i := 0) rfl
              have r1 := HB7.out.cell (i := 1) rfl
              have r2 := HB7.out.cell (i := 2) rfl
              refine bodyPost_ret (v := .tuple #[numV ⟨x0, x1, x2⟩, .int .i64 0]) (by simp [results, Try.results101, go_sem, r0, r1, r2, numV]) rfl ?_
              exact ⟨⟨x0, x1, x2⟩, by rw [HERR.out], fun _ => ⟨HB12.out, HX.out⟩, HLOW4.out.trans (HO7.out.below (fun k _ e => by have := HHE.out; omega) HLOW4.out.size)⟩
  · have d12 : b.length ≠ 12 := by rw [HL.out]; exact h12
    have HERR := Lib.hid (show errK rows last b = 3 by unfold errK; rw [if_pos (.inl d12)])
    clear h12 hx d12
    go_wp2_with (refine wpList_store_blk rfl 89 _ _ rfl H _ #[.int .u32 0, .int .u32 0, .int .u32 0] rfl rfl BZ2.out rfl num_size (ed_one 0 0 0) ?_
                 intro w7 hb7 ho7
                 have HB7 := Lib.hid hb7
                 have HO7 := Lib.hid ho7
                 clear hb7 ho7)
    have r0 := HB7.out.cell (i := 0) rfl
    have r1 := HB7.out.cell (i := 1) rfl
    have r2 := HB7.out.cell (i := 2) rfl
    refine bodyPost_ret (v := .tuple #[numV ⟨0, 0, 0⟩, .int .i64 3]) (by simp [results, Try.results101, go_sem, r0, r1, r2, numV]) rfl ?_
    exact ⟨⟨0, 0, 0⟩, by rw [HERR.out], fun e => (by rw [HERR.out] at e; cases e), HLOW.out.trans (HO7.out.below (fun k _ e => by have := HHE.out; omega) HLOW.out.size)⟩
end Go.Proofs.Yteaibgnelnblnaa
end
section
namespace Go.Proofs.Yteaibgnelnblnaa
open Go.RowKit Me Tx Ed Mg Va

/-- Arcs that fall, turned round, rise. -/
theorem rises_arcM : ∀ {A : List ArcR}, (A.Pairwise fun a b => b.dst < a.dst) → (∀ a ∈ A, 0 < a.wgt) → rises 0 (arcM A) = true
  | [], _, _ => rfl
  | a :: A, hp, hw => by
    have hp2 := List.pairwise_cons.1 hp
    rw [arcM_cons, rises_snoc, rises_arcM hp2.2 fun b hb => hw b (List.mem_cons_of_mem _ hb)]
    have h0 := hw a List.mem_cons_self
    have hl : leastOf (arcM A) ≤ a.dst := by
      cases A with
      | nil => exact Nat.zero_le _
      | cons b B =>
        have := hp2.1 b List.mem_cons_self
        rw [arcM_cons]
        unfold leastOf
        rw [List.getLast?_append]
        show b.dst + 1 ≤ a.dst
        omega
    simp
    omega
theorem arcM_mem {A : List ArcR} {p : ArcD} (h : p ∈ arcM A) : ∃ a ∈ A, p = ⟨a.dst, a.wgt⟩ := by
  unfold arcM at h
  rw [List.mem_reverse, List.mem_map] at h
  obtain ⟨a, h1, h2⟩ := h
  exact ⟨a, h1, h2.symm⟩
theorem sumA_mem {A : List ArcR} : ∀ {a : ArcR}, a ∈ A → a.wgt ≤ sumA A := by
  induction A with
  | nil => intro a h; cases h
  | cons b A ih =>
    intro a h
    have e : sumA (b :: A) = b.wgt + sumA A := by simp [sumA]
    rw [e]
    rcases List.mem_cons.1 h with rfl | h
    · omega
    · have := ih h; omega
theorem errK_zero {rows : List RowR} {last : Option EdD} {b : List UInt8} (h : errK rows last b = 0) : b.length = 12 ∧ 0 < (edB b).wgt ∧ under last (edB b) = false ∧ hasR (edB b) rows + (edB b).wgt ≤ 2147483647 := by
  unfold errK at h
  split at h
  · cases h
  · rename_i h1
    split at h
    · cases h
    · rename_i h2
      split at h
      · cases h
      · rename_i h3
        refine ⟨?_, ?_, by simpa using h2, by omega⟩
        · rcases Decidable.em (b.length = 12) with h | h
          · exact h
          · exact absurd (.inl h) h1
        · rcases Nat.eq_zero_or_pos (edB b).wgt with h | h
          · exact absurd (.inr h) h1
          · exact h
theorem MkOk.start : MkOk [] none 0 := ⟨KeysOk.start, RowsOk.nil, (fun y h => by cases h), (fun r h => by cases h)⟩
theorem addA_fit {x : EdD} {A : List ArcR} (hx : x.dst < 4294967296) (h : ∀ a ∈ A, a.dst < 4294967296) : ∀ a ∈ addA x A, a.dst < 4294967296 := by
  intro a ha
  cases A with
  | nil =>
    rw [addA, List.mem_singleton] at ha
    rw [ha]; exact hx
  | cons b A =>
    rw [addA] at ha
    split at ha
    · rcases List.mem_cons.1 ha with rfl | ha
      · exact h b List.mem_cons_self
      · exact h a (List.mem_cons_of_mem _ ha)
    · rcases List.mem_cons.1 ha with rfl | ha
      · exact hx
      · exact h a ha
theorem MkOk.empty {rows : List RowR} {last : Option EdD} {k : Nat} (h : MkOk rows last k) (hl : last = none) : rows = [] := h.keys.nil.2 (h.keys.none_.1 hl)
theorem MkOk.head {rows : List RowR} {last : Option EdD} {k : Nat} (h : MkOk rows last k) {r : RowR} {l : List RowR} (hr : rows = r :: l) : ∃ y a A, last = some y ∧ r.arcs = a :: A ∧ r.src = y.src ∧ a.dst = y.dst := by
  cases hl : last with
  | none => rw [h.empty hl] at hr; cases hr
  | some y =>
    obtain ⟨r', L, a, A, e, h1, h2, h3⟩ := h.front y hl
    rw [hr] at e
    injection e with e
    subst e
    exact ⟨y, a, A, rfl, h1, h2, h3⟩
theorem MkOk.next {rows : List RowR} {last : Option EdD} {k : Nat} {b : List UInt8} (h : MkOk rows last k) (he : errK rows last b = 0) : MkOk (addR (edB b) rows) (some (edB b)) (k + 1) := by
  obtain ⟨-, h2, h3, h4⟩ := errK_zero he
  have hx := edB_fit b
  have ha := h.ok.add h2 (x := edB b) (by
    cases hl : last with
    | none => exact .inl (h.empty hl)
    | some y => exact .inr ⟨y, h.front y hl, by rw [hl] at h3; exact h3⟩)
  refine ⟨h.keys.next hx h4, ha.1, fun y e => by injection e with e; rw [← e]; exact ha.2, ?_⟩
  intro r hr
  cases rows with
  | nil =>
    rw [addR, List.mem_singleton] at hr
    rw [hr]
    exact ⟨hx.1, fun a ha => by rw [List.mem_singleton.1 ha]; exact hx.2.1⟩
  | cons r0 l =>
    rw [addR] at hr
    split at hr
    · rcases List.mem_cons.1 hr with rfl | hr
      · have := h.fit r0 List.mem_cons_self
        exact ⟨this.1, addA_fit hx.2.1 this.2⟩
      · exact h.fit r (List.mem_cons_of_mem _ hr)
    · rcases List.mem_cons.1 hr with rfl | hr
      · exact ⟨hx.1, fun a ha => by rw [List.mem_singleton.1 ha]; exact hx.2.1⟩
      · exact h.fit r hr
theorem mh_add (x : EdD) (rows : List RowR) : mh (addR x rows) = if (mh rows).1 = x.src then (x.src, addA x (mh rows).2) else (x.src, addA x []) := by
  cases rows with
  | nil =>
    show (x.src, [(⟨x.dst, x.wgt⟩ : ArcR)]) = if (0 : Nat) = x.src then (x.src, addA x []) else (x.src, addA x [])
    split <;> rfl
  | cons r l =>
    rw [addR]
    show mh (if r.src = x.src then _ else _) = if r.src = x.src then _ else _
    split
    · rename_i h
      show (r.src, addA x r.arcs) = _
      rw [h]
      rfl
    · rfl
/-- What the adding of an edge asks. -/
theorem MkOk.adds {rows : List RowR} {last : Option EdD} {k : Nat} {x : EdD} (h : MkOk rows last k) (h3 : under last x = false) (h4 : hasR x rows + x.wgt ≤ 2147483647) (hf : (mh rows).1 = x.src) :
    (∀ p ∈ arcM (mh rows).2, p.fits) ∧ rises 0 (arcM (mh rows).2) = true ∧ (∀ a A', (mh rows).2 = a :: A' → a.dst ≤ x.dst ∧ (∀ p ∈ arcM A', p.to < x.dst) ∧ a.wgt + x.wgt < 4294967296) ∧ sumA (mh rows).2 + x.wgt ≤ 2147483647 ∧ (arcM (mh rows).2).length ≤ k := by
  cases rows with
  | nil =>
    refine ⟨fun p hp => (by cases hp), rfl, fun a A' e => (by cases e), ?_, Nat.zero_le _⟩
    simpa [mh, sumA, hasR] using h4
  | cons r l =>
    replace hf : r.src = x.src := hf
    have h5 : sumA r.arcs + x.wgt ≤ 2147483647 := by rw [hasR, if_pos hf] at h4; exact h4
    have hd := h.ok.dsts r List.mem_cons_self
    have hfit := h.fit r List.mem_cons_self
    obtain ⟨y, a, A, rfl, h7, h8, h9⟩ := h.head rfl
    refine ⟨fun p hp => ?_, rises_arcM hd (h.ok.pos r List.mem_cons_self), fun a' A' e => ?_, h5, by rw [arcM_length]; exact (h.keys.arcs r List.mem_cons_self).2⟩
    · obtain ⟨q, hq, rfl⟩ := arcM_mem hp
      have : q.wgt ≤ sumA r.arcs := sumA_mem hq
      exact ⟨hfit.2 q hq, by show q.wgt < _; omega⟩
    · replace e : r.arcs = a' :: A' := e
      rw [h7] at e
      injection e with e1 e2
      subst e1 e2
      have hlow := lowE_no.1 h3
      have ha : a.dst ≤ x.dst := by omega
      have hm := sumA_mem (A := r.arcs) (a := a) (by rw [h7]; exact List.mem_cons_self)
      rw [h7] at hd
      have hp := (List.pairwise_cons.1 hd).1
      refine ⟨ha, fun p hp' => ?_, by omega⟩
      obtain ⟨q, hq, rfl⟩ := arcM_mem hp'
      have := hp q hq
      show q.dst < x.dst
      omega
/-- A key has been consumed. -/
def McPost (w : World) (lo G : Nat) (rows : List RowR) (last : Option EdD) (A : Option Addr) (n c : Nat) (b : List UInt8) (e : Ending) (w' : World) : Prop :=
  (errK rows last b ≠ 0 ∧ e = .returned (.tuple #[.agg #[.int .u32 0, .slice none 0 0], .int .i64 (errK rows last b)]) ∧ Below w.heap.size w w') ∨
  (errK rows last b = 0 ∧ ∃ A' n' c', MrgAt w' lo G (addR (edB b) rows) (some (edB b)) A' n' c' ∧
    (((mh rows).1 = (edB b).src ∧ e = .returned (.tuple #[.agg #[.int .u32 0, .slice none 0 0], .int .i64 0]) ∧ Out (fun k => k = G ∨ (Value.slice A n c).ownBlock = some k) w w' ∧ ∀ k, (Value.slice A' n' c').ownBlock = some k → (Value.slice A n c).ownBlock = some k ∨ w.heap.size ≤ k) ∨
     ((mh rows).1 ≠ (edB b).src ∧ e = .returned (.tuple #[.agg #[.int .u32 ((mh rows).1 : Int), .slice A n c], .int .i64 0]) ∧ Out (fun k => k = G) w w' ∧ ∀ k, (Value.slice A' n' c').ownBlock = some k → w.heap.size ≤ k)))
theorem row_size : (Try.prog.info? 51).map (·.size) = some 2 := by kernel_rfl
theorem row_one (s : Int) (A : Option Addr) (n c : Nat) : (#[.int .u32 s, .slice A n c] : Array Value).all (·.oneCell') = true := by simp [Value.oneCell']
/-- What is known of each slot where the vertices are compared. -/
def mcF (G N f xs : Nat) (q : Bool) : Gw.Fact := fun t v _ =>
  match t with
  | 0 | 21 | 22 | 23 | 24 => v = .pointer (some ⟨G, 0, none⟩)
  | 6 | 19 => v = .pointer (some ⟨N, 0, none⟩)
  | 20 => v = .int .u32 (xs : Int)
  | 25 => v = .int .u32 (f : Int)
  | 26 => v = .bool q
  | _ => True
set_option maxRecDepth 100000 in
set_option maxHeartbeats 4000000 in
theorem mcons_any (lo G n c : Nat) (A : Option Addr) (rows : List RowR) (last : Option EdD) (k : Nat) (K : Option Addr) (kn kc : Nat) (b : List UInt8) (w : World) (h : MrgAt w lo G rows last A n c) (hok : MkOk rows last k) (hk : k ≤ 1000) (hl : b.length = kn) (hr : Rd w w.heap.size K b) :
    Calls Try.prog 78 #[.pointer (some ⟨G, 0, none⟩), .slice K kn kc] w (McPost w lo G rows last A n c b) := by
  obtain ⟨H, hH⟩ : ∃ H, H = w.heap.size := ⟨_, rfl⟩
  obtain ⟨w0, hw0⟩ : ∃ w0, w0 = w.alloc (.cells #[.int .u32 0, .slice none 0 0] 51) := ⟨_, rfl⟩
  have hb0 : Below w.heap.size w w0 := by rw [hw0]; exact (Below.refl _ _).alloc (Nat.le_refl _) _
  have BZ := Lib.hid (show Blk w0 H [.int .u32 0, .slice none 0 0] by rw [hw0, hH]; exact Blk.new w [.int .u32 0, .slice none 0 0] _)
  have HNX := Lib.hid (mnext_any lo G n c A rows last k K kn kc b w0 (h.past hb0) hok hl ((hr.below hb0).more hb0.size))
  have HW0 := Lib.hid hw0
  have HHE := Lib.hid hH
  have HB0 := Lib.hid hb0
  have HM := Lib.hid h
  have HOK := Lib.hid hok
  have HK := Lib.hid hk
  clear hw0 hH hb0 hl hr h hok hk
  go_enter Try.func78, Try.ntmps78
  go_upto_region 1 with fail
  rw [← HW0.out, ← HHE.out]
  go_wp2_with fail
  refine HNX.out.mono ?_
  rintro e w1 ⟨⟨x0, x1, x2⟩, rfl, hx, hb1⟩
  have HB1 := Lib.hid hb1
  have HX := Lib.hid hx
  clear HNX hb1 hx
  obtain ⟨z, hz⟩ : ∃ z, z = errK rows last b := ⟨_, rfl⟩
  rw [← hz]
  unfold numV
  obtain ⟨w2, hw2⟩ : ∃ w2, w2 = w1.alloc (.cells #[.int .u32 (x0 : Int), .int .u32 (x1 : Int), .int .u32 (x2 : Int)] 89) := ⟨_, rfl⟩
  obtain ⟨N, hN⟩ : ∃ N, N = w1.heap.size := ⟨_, rfl⟩
  have HB2 := Lib.hid (show Below w0.heap.size w0 w2 from by rw [hw2]; exact HB1.out.alloc HB1.out.size _)
  have BN := Lib.hid (show Blk w2 N [.int .u32 (x0 : Int), .int .u32 (x1 : Int), .int .u32 (x2 : Int)] from by rw [hw2, hN]; exact Blk.new w1 [.int .u32 (x0 : Int), .int .u32 (x1 : Int), .int .u32 (x2 : Int)] _)
  have HNH := Lib.hid (show H < N by have := BZ.out.lt; have := HB1.out.size; omega)
  have HW2 := Lib.hid hw2
  have HNE := Lib.hid hN
  have HZ := Lib.hid hz
  clear hw2 hN hz
  go_upto_region 2 with fail
  rw [← HW2.out, ← HNE.out]
  have BZ2 := Lib.hid (BZ.out.past HB2.out)
  have HLOW := Lib.hid (HB0.out.trans (HB2.out.mono HB0.out.size))
  by_cases hz0 : z = 0
  · have d0 : (z != 0) = false := by simp [hz0]
    have HZ0 := Lib.hid hz0
    clear hz0
    have hz00 : errK rows last b = 0 := HZ.out.symm.trans HZ0.out
    obtain ⟨h12, hxe⟩ := HX.out hz00
    obtain ⟨-, hwp, hun, hov⟩ := errK_zero hz00
    rw [← hxe] at hwp hun hov
    have HXE := Lib.hid hxe
    have HE0 := Lib.hid hz00
    have hfit : FitE ⟨x0, x1, x2⟩ := by rw [hxe]; exact edB_fit b
    have HFX := Lib.hid hfit
    have HUN := Lib.hid hun
    have HOV := Lib.hid hov
    clear hxe hz00 h12 hwp hun hov hfit
    obtain ⟨f, hf⟩ : ∃ f, f = (mh rows).1 := ⟨_, rfl⟩
    obtain ⟨s, hs⟩ : ∃ s, s = sumA (mh rows).2 := ⟨_, rfl⟩
    obtain ⟨y, hy⟩ : ∃ y, y = last.getD ⟨0, 0, 0⟩ := ⟨_, rfl⟩
    obtain ⟨As, hAs⟩ : ∃ As, As = (mh rows).2 := ⟨_, rfl⟩
    obtain ⟨w3, hw3⟩ : ∃ w3, w3 = w2.alloc (.cells #[.int .u32 0, .slice none 0 0] 51) := ⟨_, rfl⟩
    obtain ⟨D, hD⟩ : ∃ D, D = w2.heap.size := ⟨_, rfl⟩
    have hb23 : Below w2.heap.size w2 w3 := by rw [hw3]; exact (Below.refl _ _).alloc (Nat.le_refl _) _
    have BD := Lib.hid (show Blk w3 D [.int .u32 0, .slice none 0 0] from by rw [hw3, hD]; exact Blk.new w2 [.int .u32 0, .slice none 0 0] _)
    have BZ3 := Lib.hid (BZ2.out.past hb23)
    have BN3 := Lib.hid (BN.out.past hb23)
    have HLOW3 := Lib.hid (HLOW.out.trans (hb23.mono HLOW.out.size))
    have HM3 := Lib.hid (HM.out.past HLOW3.out)
    have BG3 := Lib.hid (show Blk w3 G (mgC f s n c A y) from by rw [hf, hs, hy]; exact HM3.out.box)
    have OW3 := Lib.hid (show w3.ownsRow lo 55 2 (.slice A n c) n (arcCells (arcM As)) from by rw [hAs]; exact HM3.out.own)
    have HW3 := Lib.hid hw3
    have HDE := Lib.hid hD
    have HIN := Lib.hid (show G < lo ∧ lo ≤ H ∧ H < N ∧ N < D ∧ N < w3.heap.size ∧ D < w3.heap.size from by
      have h1 := HM.out.low; have h2 := HM.out.lim; have h3 := HHE.out; have h4 := HNH.out; have h5 := BN.out.lt; have h6 := BD.out.lt; have h7 := hb23.size
      omega)
    have HF := Lib.hid (And.intro hf (And.intro hs (And.intro hy hAs)))
    clear hf hs hy hAs hw3 hD hb23
    go_upto_region 5 with fail
    rw [← HW3.out, ← HDE.out]
    obtain ⟨q, hq⟩ : ∃ q, ((x0 : Int) != (f : Int)) = q := ⟨_, rfl⟩
    have HQ := Lib.hid (show q = true ↔ f ≠ x0 from by rw [← hq]; simp; omega)
    refine Gw.wp_region_grow (mcF G N f x0 q) [19, 20, 21, 22, 23, 24, 25, 26] [([6], none), ([19], none), ([0], none), ([21], none), ([22], none), ([23], none), ([24], none), ([20, 25], none)] 44 (by kernel_rfl) (by kernel_rfl) rfl ?h0 ?hreq ?hend
    case h0 =>
      intro t W hnd _
      unfold mcF
      split <;> first | rfl | trivial | exact absurd (by simp) hnd
    case hreq =>
      refine ⟨?_, ?_, ?_, ?_, ?_, ?_, ?_, ?_, trivial⟩
      all_goals
        intro ac W hg hk
        have z0 := (BN3.out.past hg).cell (i := 0) rfl
        have z1 := (BG3.out.past hg).cell (i := 0) rfl
        simp only [Gw.Knows, mcF] at hk
        simp [go_sem, Gw.OpReq, Gw.Ok, Gw.Post, Gw.Holds, mcF, Gw.Grows.refl, hk, z0, z1, hq]
        done
    case hend =>
      intro v w4 hg hv
      have v26 := (hv 26 (by simp)).now
      simp only [mcF] at v26
      simp only [Gw.putAll, Act.put, List.setIfInBounds_toArray, List.set_cons_zero, List.set_cons_succ]
      rw [v26]
      have HB4 := Lib.hid (show Below w3.heap.size w3 w4 from hg)
      clear hg hv v26 hq
      have BD4 := Lib.hid (BD.out.past HB4.out)
      have BZ4 := Lib.hid (BZ3.out.past HB4.out)
      have BN4 := Lib.hid (BN3.out.past HB4.out)
      have BG4 := Lib.hid (BG3.out.past HB4.out)
      have OW4 := Lib.hid (own_below' OW3.out HB4.out)
      have HLOW4 := Lib.hid (HLOW3.out.trans (HB4.out.mono HLOW3.out.size))
      have n0 := BN4.out.cell (i := 0) rfl
      have n1 := BN4.out.cell (i := 1) rfl
      have n2 := BN4.out.cell (i := 2) rfl
      cases q with
      | true =>
        have hne : f ≠ x0 := HQ.out.1 rfl
        have HNE2 := Lib.hid hne
        clear hne
        have g0 := BG4.out.cell (i := 0) rfl
        have g1 := BG4.out.cell (i := 1) rfl
        have e0 := BD4.out.cell (i := 0) rfl
        have e1 := BD4.out.cell (i := 1) rfl
        have k0 := BD4.out.frozen 0
        have k1 := BD4.out.frozen 1
        go_upto_region 7 with fail
        obtain ⟨w5, hw5⟩ : ∃ w5, w5 = (w4.setCell ⟨D, 0, none⟩ (.int .u32 (f : Int))).setCell ⟨D, 1, none⟩ (.slice A n c) := ⟨_, rfl⟩
        have ho5 : Out (fun k => k = D) w4 w5 := by rw [hw5]; exact ((Out.refl (fun k => k = D) w4).setCell (p := ⟨D, 0, none⟩) (.inl rfl) _).setCell (p := ⟨D, 1, none⟩) (.inl rfl) _
        have BD5 := Lib.hid (show Blk w5 D [.int .u32 (f : Int), .slice A n c] from by rw [hw5]; exact (BD4.out.set 0 _).set 1 _)
        have BZ5 := Lib.hid (BZ4.out.out ho5 (by have := HIN.out; omega))
        have BN5 := Lib.hid (BN4.out.out ho5 (by have := HIN.out; omega))
        have BG5 := Lib.hid (BG4.out.out ho5 (by have := HIN.out; omega))
        have HO5 := Lib.hid ho5
        have HW5 := Lib.hid hw5
        rw [← HW5.out]
        clear hw5 ho5 g0 g1 e0 e1 k0 k1 n0 n1 n2
        have n0 := BN5.out.cell (i := 0) rfl
        have g0 := BG5.out.cell (i := 0) rfl
        have g1 := BG5.out.cell (i := 1) rfl
        have g2 := BG5.out.cell (i := 2) rfl
        have k0 := BG5.out.frozen 0
        have k1 := BG5.out.frozen 1
        have k2 := BG5.out.frozen 2
        go_upto_region 8 with fail
        obtain ⟨w6, hw6⟩ : ∃ w6, w6 = ((w5.setCell ⟨G, 0, none⟩ (.int .u32 (x0 : Int))).setCell ⟨G, 1, none⟩ (.slice none 0 0)).setCell ⟨G, 2, none⟩ (.int .u64 0) := ⟨_, rfl⟩
        have ho6 : Out (fun k => k = G) w5 w6 := by rw [hw6]; exact (((Out.refl (fun k => k = G) w5).setCell (p := ⟨G, 0, none⟩) (.inl rfl) _).setCell (p := ⟨G, 1, none⟩) (.inl rfl) _).setCell (p := ⟨G, 2, none⟩) (.inl rfl) _
        have BG6 := Lib.hid (show Blk w6 G (mgC x0 0 0 0 none y) from by rw [hw6]; exact ((BG5.out.set 0 _).set 1 _).set 2 _)
        have BD6 := Lib.hid (BD5.out.out ho6 (by have := HIN.out; omega))
        have BZ6 := Lib.hid (BZ5.out.out ho6 (by have := HIN.out; omega))
        have BN6 := Lib.hid (BN5.out.out ho6 (by have := HIN.out; omega))
        have HO6 := Lib.hid ho6
        have HW6 := Lib.hid hw6
        rw [← HW6.out]
        clear hw6 ho6 n0 g0 g1 g2 k0 k1 k2
        have n0 := BN6.out.cell (i := 0) rfl
        have n1 := BN6.out.cell (i := 1) rfl
        have n2 := BN6.out.cell (i := 2) rfl
        have HADD := Lib.hid (madd_any lo G x0 0 0 0 none [] y ⟨x0, x1, x2⟩ w6 HFX.out BG6.out (World.ownsRow_nil _ _ _ _) HIN.out.1 (by have := HIN.out; have := HB4.out.size; have := HO5.out.size; have := HO6.out.size; omega) rfl (by omega) (fun p hp => (by cases hp)) rfl (fun a A' e => (by cases e)) (by have h : x2 < 4294967296 := HFX.out.2.2; show 0 + x2 < _; omega))
        unfold numV at HADD
        go_wp2_with fail
        refine HADD.out.mono ?_
        rintro e wx ⟨rfl, ⟨A', n', c', hbx, how, hln, hloc⟩, hout⟩
        have HPX := Lib.hid (And.intro hbx (And.intro how (And.intro hln (And.intro hloc hout))))
        have BDX := Lib.hid (BD6.out.out hout (fun h => by
            rcases h with h | h
            · have := HIN.out; omega
            · cases h))
        have BZX := Lib.hid (BZ6.out.out hout (fun h => by
            rcases h with h | h
            · have := HIN.out; omega
            · cases h))
        clear hbx how hln hloc hout n0 n1 n2
        have t0 := BDX.out.cell (i := 0) rfl
        have t1 := BDX.out.cell (i := 1) rfl
        go_wp2_with (refine wpList_store_blk rfl 51 _ _ rfl H _ #[.int .u32 (f : Int), .slice A n c] rfl rfl BZX.out rfl row_size (row_one _ _ _ _) ?_
                     intro w7 hb7 ho7
                     have HB7 := Lib.hid hb7
                     have HO7 := Lib.hid ho7
                     clear hb7 ho7)
        have r0 := HB7.out.cell (i := 0) rfl
        have r1 := HB7.out.cell (i := 1) rfl
        refine bodyPost_ret (v := .tuple #[.agg #[.int .u32 (f : Int), .slice A n c], .int .i64 0]) (by simp [results, Try.results78, go_sem, r0, r1]) rfl ?_
        obtain ⟨hbx, how, hln, hloc, hout⟩ := HPX.out
        have hOA : Out (fun k => k = G) w w7 := (((((Out.of_below HLOW4.out).trans' HO5.out fun k e => .inr (by have := HIN.out; have := HHE.out; omega)).trans HO6.out).trans' hout fun k e => .inl (by
            rcases e with e | e
            · exact e
            · cases e)).trans' HO7.out fun k e => .inr (by have := HHE.out; omega))
        have hm := mh_add ⟨x0, x1, x2⟩ rows
        rw [if_neg (by rw [← HF.out.1]; exact HNE2.out)] at hm
        refine .inr ⟨HE0.out, A', n', c', ?_, .inr ⟨?_, ?_, hOA, ?_⟩⟩
        · rw [← HXE.out]
          have h8 := hbx.out HO7.out (by have := HIN.out; omega)
          have h9 := own_out how HO7.out (fun k h e => by
            have e : k = H := e
            rcases hloc with h1 | ⟨k1, h1, h2⟩
            · rw [h1] at h; cases h
            · rw [h1] at h; injection h with h; have := HIN.out; have := HB4.out.size; have := HO5.out.size; have := HO6.out.size; omega)
          refine ⟨?_, ?_, ?_, HIN.out.1, ?_⟩
          · rw [hm]
            have e : sumA (addA ⟨x0, x1, x2⟩ []) = 0 + x2 := by simp [addA, sumA]
            rw [e]
            exact h8
          · rw [hm]; exact h9
          · rw [hm]; exact hln
          · have := HIN.out; have := HB4.out.size; have := HO5.out.size; have := HO6.out.size; have := hout.size; have := HO7.out.size; omega
        · rw [← HF.out.1, ← HXE.out]; exact HNE2.out
        · rw [← HF.out.1]
        · intro k hk
          rcases hloc with h1 | ⟨k1, h1, h2⟩
          · rw [h1] at hk; cases hk
          · rw [h1] at hk; injection hk with hk; have := HIN.out; have := HB4.out.size; have := HO5.out.size; have := HO6.out.size; have := HHE.out; omega
      | false =>
        have heq : f = x0 := Classical.byContradiction fun h => by have := HQ.out.2 h; cases this
        subst heq
        obtain ⟨hh1, hh2, hh3, hh4, hh5⟩ := HOK.out.adds (x := ⟨f, x1, x2⟩) HUN.out HOV.out HF.out.1.symm
        rw [← HF.out.2.1] at hh4
        rw [← HF.out.2.2.2] at hh1 hh2 hh3 hh5
        have HADD := Lib.hid (madd_any lo G f s n c A As y ⟨f, x1, x2⟩ w4 HFX.out BG4.out OW4.out HIN.out.1 (by have := HIN.out; have := HB4.out.size; omega) (by rw [HF.out.2.2.2]; exact HM.out.len) (by rw [← HM.out.len, ← HF.out.2.2.2]; have := HK.out; omega) hh1 hh2 hh3 (by have h : s + x2 ≤ 2147483647 := hh4; show s + x2 < _; omega))
        clear hh1 hh2 hh3 hh4 hh5
        unfold numV at HADD
        go_wp2_with fail
        refine HADD.out.mono ?_
        rintro e wx ⟨rfl, ⟨A', n', c', hbx, how, hln, hloc⟩, hout⟩
        have HPX := Lib.hid (And.intro hbx (And.intro how (And.intro hln (And.intro hloc hout))))
        have BDX := Lib.hid (BD4.out.out hout (fun h => by
            rcases h with h | h
            · have := HIN.out; omega
            · have := (HM.out.own.lt _ h).2; have := HHE.out; have := HIN.out; omega))
        have BZX := Lib.hid (BZ4.out.out hout (fun h => by
            rcases h with h | h
            · have := HIN.out; omega
            · have := (HM.out.own.lt _ h).2; have := HHE.out; have := HIN.out; omega))
        clear hbx how hln hloc hout n0 n1 n2
        have t0 := BDX.out.cell (i := 0) rfl
        have t1 := BDX.out.cell (i := 1) rfl
        go_wp2_with (refine wpList_store_blk rfl 51 _ _ rfl H _ #[.int .u32 0, .slice none 0 0] rfl rfl BZX.out rfl row_size (row_one _ _ _ _) ?_
                     intro w7 hb7 ho7
                     have HB7 := Lib.hid hb7
                     have HO7 := Lib.hid ho7
                     clear hb7 ho7)
        have r0 := HB7.out.cell (i := 0) rfl
        have r1 := HB7.out.cell (i := 1) rfl
        refine bodyPost_ret (v := .tuple #[.agg #[.int .u32 0, .slice none 0 0], .int .i64 0]) (by simp [results, Try.results78, go_sem, r0, r1]) rfl ?_
        obtain ⟨hbx, how, hln, hloc, hout⟩ := HPX.out
        have hOA : Out (fun k => k = G ∨ (Value.slice A n c).ownBlock = some k) w w7 := (((Out.of_below HLOW4.out).trans hout).trans' HO7.out fun k e => .inr (by have := HHE.out; omega))
        have hm := mh_add ⟨f, x1, x2⟩ rows
        rw [if_pos HF.out.1.symm, ← HF.out.2.2.2] at hm
        refine .inr ⟨HE0.out, A', n', c', ?_, .inl ⟨?_, rfl, hOA, ?_⟩⟩
        · rw [← HXE.out]
          have h8 := hbx.out HO7.out (by have := HIN.out; omega)
          have h9 := own_out how HO7.out (fun k h e => by
            have e : k = H := e
            rcases hloc with h1 | ⟨k1, h1, h2⟩
            · rw [h1] at h
              have := (HM.out.own.lt k h).2
              have := HHE.out
              omega
            · rw [h1] at h; injection h with h; have := HIN.out; have := HB4.out.size; omega)
          refine ⟨?_, ?_, ?_, HIN.out.1, ?_⟩
          · rw [hm]
            have e : sumA (addA ⟨f, x1, x2⟩ As) = s + x2 := by rw [sumA_add, HF.out.2.1, HF.out.2.2.2]
            rw [e]
            exact h8
          · rw [hm]; exact h9
          · rw [hm]; exact hln
          · have := HIN.out; have := HB4.out.size; have := hout.size; have := HO7.out.size; omega
        · rw [← HF.out.1, ← HXE.out]
        · intro k hk
          rcases hloc with h1 | ⟨k1, h1, h2⟩
          · rw [h1] at hk; exact .inl hk
          · rw [h1] at hk; injection hk with hk; exact .inr (by have := HIN.out; have := HB4.out.size; have := HHE.out; omega)
  · have d0 : (z != 0) = true := by simp [hz0]
    have HZ0 := Lib.hid hz0
    clear hz0
    go_wp2_with (refine wpList_store_blk rfl 51 _ _ rfl H _ #[.int .u32 0, .slice none 0 0] rfl rfl BZ2.out rfl row_size (row_one _ _ _ _) ?_
                 intro w7 hb7 ho7
                 have HB7 := Lib.hid hb7
                 have HO7 := Lib.hid ho7
                 clear hb7 ho7)
    have r0 := HB7.out.cell (i := 0) rfl
    have r1 := HB7.out.cell (i := 1) rfl
    refine bodyPost_ret (v := .tuple #[.agg #[.int .u32 0, .slice none 0 0], .int .i64 z]) (by simp [results, Try.results78, go_sem, r0, r1]) rfl ?_
    exact .inl ⟨by rw [← HZ.out]; exact HZ0.out, by rw [HZ.out], HLOW.out.trans (HO7.out.below (fun k _ e => by have := HHE.out; omega) HLOW.out.size)⟩
end Go.Proofs.Yteaibgnelnblnaa
end
section
namespace Go.Proofs.Yteaibgnelnblnaa
open Go.RowKit Me Ed Mg

/-- A row that is told, the error beside it. -/
abbrev TellR := RwD × Int
/-- The rows that are complete. -/
def told (rows : List RowR) : List TellR := (rowM rows.tail).map fun r => (r, 0)
/-- What is told where keys have come to rows, and an error or none. -/
def tellQ (q : List RowR × Option EdD × Int) : List TellR := if q.2.2 = 0 then (rowM q.1).map fun r => (r, 0) else told q.1 ++ [((0, []), q.2.2)]
/-- What is told of keys. -/
def tellX (keys : List (List UInt8)) : List TellR := tellQ (goK [] none keys).2
theorem goK_app : ∀ (l m : List (List UInt8)) (rows : List RowR) (last : Option EdD), (goK rows last l).2.2.2 = 0 → (goK rows last (l ++ m)).2 = (goK (goK rows last l).2.1 (goK rows last l).2.2.1 m).2
  | [], m, rows, last, _ => rfl
  | b :: l, m, rows, last, h => by
    rw [List.cons_append, goK, goK]
    rw [goK] at h
    by_cases e : errK rows last b = 0
    · rw [if_pos e, if_pos e]
      rw [if_pos e] at h
      exact goK_app l m _ _ h
    · rw [if_neg e] at h
      exact absurd h e
theorem goK_one {rows : List RowR} {last : Option EdD} {b : List UInt8} {l : List (List UInt8)} (h : errK rows last b = 0) : (goK rows last (b :: l)).2 = (goK (addR (edB b) rows) (some (edB b)) l).2 := by rw [goK, if_pos h]
theorem goK_bad {rows : List RowR} {last : Option EdD} {b : List UInt8} {l : List (List UInt8)} (h : errK rows last b ≠ 0) : (goK rows last (b :: l)).2 = (rows, last, errK rows last b) := by rw [goK, if_neg h]
/-- One more row is complete. -/
theorem told_add (x : EdD) (rows : List RowR) : told (addR x rows) = if (mh rows).1 = x.src ∨ rows = [] then told rows else told rows ++ [(((mh rows).1, arcM (mh rows).2), 0)] := by
  cases rows with
  | nil => rw [if_pos (.inr rfl)]; rfl
  | cons r l =>
    rw [addR]
    by_cases h : r.src = x.src
    · rw [if_pos h, if_pos (.inl h)]
      rfl
    · rw [if_neg h, if_neg (fun hh => hh.elim h (fun e => by cases e))]
      show (rowM (r :: l)).map _ = (rowM l).map _ ++ _
      rw [rowM_cons, List.map_append]
      rfl
theorem told_last {rows : List RowR} (h : rows ≠ []) : (rowM rows).map (fun r => ((r, 0) : TellR)) = told rows ++ [(((mh rows).1, arcM (mh rows).2), 0)] := by
  cases rows with
  | nil => exact absurd rfl h
  | cons r l =>
    show (rowM (r :: l)).map _ = (rowM l).map _ ++ _
    rw [rowM_cons, List.map_append]
    rfl
/-- What is told goes on from the rows that are complete. -/
theorem tell_from : ∀ (m : List (List UInt8)) (rows : List RowR) (last : Option EdD), ∃ ext, tellQ (goK rows last m).2 = told rows ++ ext
  | [], rows, last => by
    by_cases h : rows = []
    · subst h
      exact ⟨[], rfl⟩
    · exact ⟨_, told_last h⟩
  | b :: m, rows, last => by
    by_cases e : errK rows last b = 0
    · rw [goK_one e]
      obtain ⟨ext, h⟩ := tell_from m (addR (edB b) rows) (some (edB b))
      rw [h, told_add]
      split
      · exact ⟨ext, rfl⟩
      · exact ⟨_, by rw [List.append_assoc]⟩
    · rw [goK_bad e]
      exact ⟨_, by unfold tellQ; rw [if_neg e]⟩
/-- Keys that have been consumed, all of them. -/
structure GoneK (keys : List (List UInt8)) (rows : List RowR) (last : Option EdD) : Prop where
  eq : (goK [] none keys).2 = (rows, last, 0)
theorem GoneK.start : GoneK [] [] none := ⟨rfl⟩
theorem GoneK.all {keys m : List (List UInt8)} {rows : List RowR} {last : Option EdD} (h : GoneK keys rows last) : (goK [] none (keys ++ m)).2 = (goK rows last m).2 := by
  have := goK_app keys m [] none (by rw [h.eq])
  rw [this, h.eq]
theorem GoneK.next {keys : List (List UInt8)} {rows : List RowR} {last : Option EdD} {b : List UInt8} (h : GoneK keys rows last) (he : errK rows last b = 0) : GoneK (keys ++ [b]) (addR (edB b) rows) (some (edB b)) := ⟨by rw [h.all, goK_one he]; rfl⟩
theorem GoneK.bad {keys m : List (List UInt8)} {rows : List RowR} {last : Option EdD} {b : List UInt8} (h : GoneK keys rows last) (he : errK rows last b ≠ 0) : tellX (keys ++ b :: m) = told rows ++ [((0, []), errK rows last b)] := by
  unfold tellX
  rw [h.all, goK_bad he]
  unfold tellQ
  rw [if_neg he]
theorem GoneK.row {keys m : List (List UInt8)} {rows : List RowR} {last : Option EdD} {b : List UInt8} (h : GoneK keys rows last) (he : errK rows last b = 0) (h1 : (mh rows).1 ≠ (edB b).src) (h2 : rows ≠ []) : ∃ ext, tellX (keys ++ b :: m) = told rows ++ (((mh rows).1, arcM (mh rows).2), 0) :: ext := by
  unfold tellX
  rw [h.all, goK_one he]
  obtain ⟨ext, e⟩ := tell_from m (addR (edB b) rows) (some (edB b))
  rw [e, told_add, if_neg (fun h => h.elim h1 h2), List.append_assoc]
  exact ⟨ext, rfl⟩
theorem GoneK.done {keys : List (List UInt8)} {rows : List RowR} {last : Option EdD} (h : GoneK keys rows last) : tellX keys = if rows = [] then told rows else told rows ++ [(((mh rows).1, arcM (mh rows).2), 0)] := by
  unfold tellX
  rw [h.eq]
  unfold tellQ
  rw [if_pos rfl]
  split
  · rename_i e
    subst e
    rfl
  · rename_i e
    exact told_last e
end Go.Proofs.Yteaibgnelnblnaa
end
