/- The merging of keys: an edge more. -/
import Derived.Test.YtniffijjdehnaaaMmC
import Derived.Test.YtniffijjdehnaaaMkS
import Derived.Test.YtniffijjdehnaaaFind
import Derived.Deep.RegionHeld3
import Derived.RegionTactic
namespace Go.Proofs.Ytniffijjdehnaaa
open Go.RowKit Me Tx Ed Mg Va

/-- The cells of what is known between two keys. -/
abbrev mgC (f s n c : Nat) (A : Option Addr) (y : EdD) : List Value := [.int .u32 (f : Int), .slice A n c, .int .u64 (s : Int), .int .u32 (y.src : Int), .int .u32 (y.dst : Int), .int .u32 (y.wgt : Int)]
/-- An edge more, in memory. -/
structure MaPost (w : World) (lo G f s n c : Nat) (A : Option Addr) (As : List ArcR) (x : EdD) (w' : World) : Prop where
  ex : ∃ A' n' c', Blk w' G (mgC f (s + x.wgt) n' c' A' x) ∧ w'.ownsRow lo 59 2 (.slice A' n' c') n' (arcCells (arcM (addA x As))) ∧ (arcM (addA x As)).length = n' ∧ ((Value.slice A' n' c').ownBlock = (Value.slice A n c).ownBlock ∨ ∃ k, (Value.slice A' n' c').ownBlock = some k ∧ w.heap.size ≤ k)
  out : Out (fun k => k = G ∨ (Value.slice A n c).ownBlock = some k) w w'
theorem marc_info : (Try.prog.info? 59).map (fun i => (i.zero, i.size, i.bytes)) = some (some (.agg #[.int .u32 0, .int .u32 0]), 2, 8) := by kernel_rfl
theorem marc_cells {a b : Nat} : ∀ u ∈ ([.int .u32 (a : Int), .int .u32 (b : Int)] : List Value), u.oneCell' = true := fun u hu => by
  simp at hu
  rcases hu with rfl | rfl <;> rfl
/-- How the search ends, where the end is not below the last one. -/
theorem stands_new {l : List ArcD} {tt r : Nat} {bb : Bool} (h : Stands l tt r bb) (hup : ∀ p ∈ l, p.to < tt) : r = l.length ∧ bb = false := by
  have hr : r = l.length := by
    rcases Nat.lt_or_ge r l.length with hlt | hge
    · have h1 := h.2.2.1 r l[r] (List.getElem?_eq_getElem hlt) (Nat.le_refl _)
      have h2 := hup l[r] (List.getElem_mem hlt)
      omega
    · have := h.1; omega
  refine ⟨hr, ?_⟩
  rw [h.2.2.2, hr, List.getElem?_eq_none (Nat.le_refl _)]
theorem stands_same {l : List ArcD} {p : ArcD} {tt r : Nat} {bb : Bool} (h : Stands (l ++ [p]) tt r bb) (hp : p.to = tt) (hup : ∀ q ∈ l, q.to < tt) : r = l.length ∧ bb = true := by
  have e : (l ++ [p])[l.length]? = some p := by rw [List.getElem?_append_right (Nat.le_refl _), Nat.sub_self]; rfl
  have hr : r = l.length := by
    rcases Nat.lt_trichotomy r l.length with hlt | he | hgt
    · have h0 : (l ++ [p])[r]? = some l[r] := by rw [List.getElem?_append_left hlt, List.getElem?_eq_getElem hlt]
      have h1 := h.2.2.1 r l[r] h0 (Nat.le_refl _)
      have h2 := hup l[r] (List.getElem_mem hlt)
      omega
    · exact he
    · have := h.2.1 l.length p e hgt
      omega
  refine ⟨hr, ?_⟩
  rw [h.2.2.2, hr, e]
  simp [hp]
/-- What the search answers. -/
theorem madd_find (A : Option Addr) (n c : Nat) (As : List ArcR) (x : EdD) (w : World) (hl : (arcM As).length = n) (hn : n ≤ 100000) {lo : Nat} (ho : w.ownsRow lo 59 2 (.slice A n c) n (arcCells (arcM As))) (hfit : ∀ p ∈ arcM As, p.fits) (hri : rises 0 (arcM As) = true) (hup : ∀ a A', As = a :: A' → a.dst ≤ x.dst ∧ (∀ p ∈ arcM A', p.to < x.dst)) :
    ∃ (r : Nat) (bb : Bool), ((bb = false ∧ r = n ∧ arcM (addA x As) = arcM As ++ [⟨x.dst, x.wgt⟩]) ∨ (bb = true ∧ r + 1 = n ∧ ∃ a A', As = a :: A' ∧ a.dst = x.dst ∧ (arcM A').length = r ∧ arcM (addA x As) = arcM A' ++ [⟨a.dst, a.wgt + x.wgt⟩] ∧ arcM As = arcM A' ++ [⟨a.dst, a.wgt⟩])) ∧
      ∀ W, Below w.heap.size w W → Calls Try.prog 39 #[.slice A n c, .int .u32 (x.dst : Int)] W fun e w' => e = .returned (.tuple #[.int .i64 (r : Int), .bool bb]) ∧ Below W.heap.size W w' := by
  have hC := fun W (hW : Below w.heap.size w W) => find_any A n c (arcM As) x.dst W hl (by omega) (Arcs.of_own (own_below' ho hW) hfit) hri
  cases As with
  | nil =>
    refine ⟨n, false, .inl ⟨rfl, rfl, rfl⟩, fun W hW => (hC W hW).mono ?_⟩
    rintro e w' ⟨r, bb, rfl, hs, hb⟩
    obtain ⟨rfl, rfl⟩ := stands_new hs (fun p hp => by cases hp)
    rw [hl]
    exact ⟨rfl, hb⟩
  | cons a A' =>
    have h1 := hup a A' rfl
    by_cases he : a.dst = x.dst
    · have hl2 : (arcM A').length + 1 = n := by rw [← hl, arcM_cons]; simp
      refine ⟨(arcM A').length, true, .inr ⟨rfl, hl2, a, A', rfl, he, rfl, by rw [addA, if_pos he, arcM_cons], arcM_cons a A'⟩, fun W hW => (hC W hW).mono ?_⟩
      rintro e w' ⟨r, bb, rfl, hs, hb⟩
      rw [arcM_cons] at hs
      obtain ⟨rfl, rfl⟩ := stands_same hs he h1.2
      exact ⟨rfl, hb⟩
    · refine ⟨n, false, .inl ⟨rfl, rfl, by rw [addA, if_neg he, show (⟨x.dst, x.wgt⟩ : ArcR) :: a :: A' = (⟨x.dst, x.wgt⟩ : ArcR) :: (a :: A') from rfl, arcM_cons]⟩, fun W hW => (hC W hW).mono ?_⟩
      rintro e w' ⟨r, bb, rfl, hs, hb⟩
      obtain ⟨rfl, rfl⟩ := stands_new hs (fun p hp => by
        rw [arcM_cons] at hp
        rcases List.mem_append.1 hp with hp | hp
        · exact h1.2 p hp
        · rw [List.mem_singleton.1 hp]
          have := h1.1
          show a.dst < x.dst
          omega)
      rw [hl]
      exact ⟨rfl, hb⟩
/-- What is known of each slot where the end is looked up. -/
def maG (G H n c xd r : Nat) (bb : Bool) (A : Option Addr) : Gw.Fact := fun t v _ =>
  match t with
  | 0 | 7 | 8 | 9 => v = .pointer (some ⟨G, 0, none⟩)
  | 10 => v = .pointer (some ⟨G, 1, none⟩)
  | 11 => v = .slice A n c
  | 3 => v = .pointer (some ⟨H, 0, none⟩)
  | 12 => v = .pointer (some ⟨H, 1, none⟩)
  | 13 => v = .int .u32 (xd : Int)
  | 14 | 6 => v = .tuple #[.int .i64 (r : Int), .bool bb]
  | 15 | 4 => v = .int .i64 (r : Int)
  | 16 | 5 => v = .bool bb
  | _ => True
/-- Where the arc is there, before it is given more. -/
structure MaMid (w : World) (lo G H f s n c r : Nat) (A : Option Addr) (As : List ArcR) (y x : EdD) (wx : World) : Prop where
  ex : ∃ (A5 : Option Addr) (n5 c5 : Nat) (M : List ArcD) (v : Nat), Blk wx G (mgC f s n5 c5 A5 y) ∧ wx.ownsRow lo 59 2 (.slice A5 n5 c5) n5 (arcCells (M ++ [⟨x.dst, v⟩])) ∧ M.length = r ∧ n5 = r + 1 ∧ arcM (addA x As) = M ++ [⟨x.dst, v + x.wgt⟩] ∧ v + x.wgt < 4294967296 ∧
    ((Value.slice A5 n5 c5).ownBlock = (Value.slice A n c).ownBlock ∨ ∃ k, (Value.slice A5 n5 c5).ownBlock = some k ∧ w.heap.size < k)
  num : Blk wx H [.int .u32 (x.src : Int), .int .u32 (x.dst : Int), .int .u32 (x.wgt : Int)]
  out : Out (fun k => k = G ∨ (Value.slice A n c).ownBlock = some k) w wx
set_option maxRecDepth 100000 in
set_option maxHeartbeats 4000000 in
theorem madd_any (lo G f s n c : Nat) (A : Option Addr) (As : List ArcR) (y x : EdD) (w : World) (hx : FitE x) (hb : Blk w G (mgC f s n c A y)) (ho : w.ownsRow lo 59 2 (.slice A n c) n (arcCells (arcM As)))
    (hG : G < lo) (hlo : lo ≤ w.heap.size) (hl : (arcM As).length = n) (hn : n ≤ 100000) (hfit : ∀ p ∈ arcM As, p.fits) (hri : rises 0 (arcM As) = true) (hup : ∀ a A', As = a :: A' → a.dst ≤ x.dst ∧ (∀ p ∈ arcM A', p.to < x.dst) ∧ a.wgt + x.wgt < 4294967296) (hs : s + x.wgt < 18446744073709551616) :
    Calls Try.prog 36 #[.pointer (some ⟨G, 0, none⟩), numV x] w fun e w' => e = .returned (.tuple #[]) ∧ MaPost w lo G f s n c A As x w' := by
  obtain ⟨H, hH⟩ : ∃ H, H = w.heap.size := ⟨_, rfl⟩
  obtain ⟨xs, xd, xw⟩ := x
  unfold numV
  obtain ⟨w0, hw0⟩ : ∃ w0, w0 = w.alloc (.cells #[.int .u32 (xs : Int), .int .u32 (xd : Int), .int .u32 (xw : Int)] 63) := ⟨_, rfl⟩
  have hb0 : Below w.heap.size w w0 := by rw [hw0]; exact (Below.refl _ _).alloc (Nat.le_refl _) _
  have BN := Lib.hid (show Blk w0 H [.int .u32 (xs : Int), .int .u32 (xd : Int), .int .u32 (xw : Int)] by rw [hw0, hH]; exact Blk.new w [.int .u32 (xs : Int), .int .u32 (xd : Int), .int .u32 (xw : Int)] _)
  have BG := Lib.hid (hb.past hb0)
  have OW := Lib.hid (own_below' ho hb0)
  obtain ⟨r, bb, hway, hfind⟩ := madd_find A n c As ⟨xs, xd, xw⟩ w0 hl hn (own_below' ho hb0) hfit hri (fun a A' e => ⟨(hup a A' e).1, (hup a A' e).2.1⟩)
  have HF := Lib.hid hfind
  have HWAY := Lib.hid hway
  have HW0 := Lib.hid hw0
  have HHE := Lib.hid hH
  have HB0 := Lib.hid hb0
  have HOR := Lib.hid ho
  have HG := Lib.hid (And.intro hG hlo)
  have HL := Lib.hid hl
  have HFT := Lib.hid hfit
  have HRI := Lib.hid hri
  have HUP := Lib.hid hup
  have HX := Lib.hid hx
  clear hw0 hH hb0 ho hb hG hlo hl hfit hri hup hx hway hfind
  have n1 := BN.out.cell (i := 1) rfl
  have g1 := BG.out.cell (i := 1) rfl
  go_enter Try.func36, Try.ntmps36
  go_upto_region 1 with fail
  rw [← HW0.out, ← HHE.out]
  refine Gw.wp_region_grow (maG G H n c xd r bb A) [7, 8, 9, 10, 11, 12, 13, 14, 6, 15, 16, 4, 5] [([0], none), ([7], none), ([8], none), ([9], none), ([10], none), ([3], none), ([12], none), ([11, 13], none), ([14], none), ([6], none), ([6], none), ([15], none), ([16], none)] 61 (by kernel_rfl) (by kernel_rfl) rfl ?h0 ?hreq ?hend
  case h0 =>
    intro t W hnd _
    unfold maG
    split <;> first | rfl | trivial | exact absurd (by simp) hnd
  case hreq =>
    refine ⟨?_, ?_, ?_, ?_, ?_, ?_, ?_, ?_, ?_, ?_, ?_, ?_, ?_, trivial⟩
    all_goals
      intro ac W hg hk
      have hg' : Below w0.heap.size w0 W := hg
      have z0 := (BN.out.past hg').cell (i := 1) rfl
      have z1 := (BG.out.past hg').cell (i := 1) rfl
      simp only [Gw.Knows, maG] at hk
      try (simp [go_sem, Gw.OpReq, Gw.Ok, Gw.Post, Gw.Holds, maG, Gw.Grows.refl, hk, z0, z1]; done)
    simp [go_sem, Gw.OpReq, Gw.Ok, Gw.Post, Gw.Holds, maG, Gw.Grows.refl, hk]
    refine (HF.out W hg').mono ?_
    rintro e W' ⟨rfl, hb4⟩
    exact ⟨_, rfl, hb4, fun _ _ => rfl⟩
  case hend =>
    intro v w1 hg hv
    have v4 := (hv 4 (by simp)).now
    have v5 := (hv 5 (by simp)).now
    simp only [maG] at v4 v5
    simp only [Gw.putAll, Act.put, List.setIfInBounds_toArray, List.set_cons_zero, List.set_cons_succ]
    rw [v4, v5]
    have HB1 := Lib.hid (show Below w0.heap.size w0 w1 from hg)
    clear hg hv v4 v5
    have BN1 := Lib.hid (BN.out.past HB1.out)
    have BG1 := Lib.hid (BG.out.past HB1.out)
    have OW1 := Lib.hid (own_below' OW.out HB1.out)
    have n0 := BN1.out.cell (i := 0) rfl
    have n1 := BN1.out.cell (i := 1) rfl
    have n2 := BN1.out.cell (i := 2) rfl
    have g1 := BG1.out.cell (i := 1) rfl
    have f1 := BG1.out.frozen 1
    obtain ⟨i0, hi0, hz0, hz1, hz2⟩ := info_parts marc_info
    go_upto_if 18 with fail
    go_cut [] (fun wx => Hid (MaMid w lo G H f s n c r A As y ⟨xs, xd, xw⟩ wx))
    case first =>
     rcases HWAY.out with ⟨rfl, rfl, hadd⟩ | ⟨rfl, hr1, hadd⟩
     · have HADD := Lib.hid hadd
       have HMX := Lib.hid (show r + 1 ≤ maxLen by unfold maxLen; omega)
       clear hadd
       obtain ⟨wa, hwa⟩ : ∃ wa, wa = (w1.alloc (.cells #[.int .u32 (xd : Int), .int .u32 0] 59)).drew := ⟨_, rfl⟩
       have hb1a : Below w1.heap.size w1 wa := by rw [hwa]; exact ((Below.refl _ _).alloc (Nat.le_refl _) _).drew
       have HBA := Lib.hid hb1a
       have OWA := Lib.hid (own_below' OW1.out hb1a)
       have HLO := Lib.hid (show lo ≤ wa.heap.size by have := HG.out.2; have := HB0.out.size; have := HB1.out.size; have := hb1a.size; omega)
       have HLIT := Lib.hid (show ∀ (j : Nat) (u : Value), ([.int .u32 (xd : Int), .int .u32 0] : List Value)[j]? = some u → wa.cell? ((⟨w1.heap.size, 0, none⟩ : Addr).add j) = some u from fun j u hj => by rw [hwa]; exact two_lit (w := w1) rfl j u hj)
       have HWA := Lib.hid hwa
       have HCE := Lib.hid (show ∀ u ∈ ([.int .u32 (xd : Int), .int .u32 0] : List Value), u.oneCell' = true from marc_cells (a := xd) (b := 0))
       have hgl := BG1.out.lt
       have hhl := BN1.out.lt
       have HGL := Lib.hid (show G < wa.heap.size by have := BG1.out.lt; have := hb1a.size; omega)
       clear hwa hb1a
       go_wp2_with fail
       go_region_law (go_loud (rw [← HWA.out]; refine step_append_both (w := wa) rfl (.tmp 24) (.tmp 28) 49 rfl lo 59 i0 _ 2 8 Try.underlying49 hi0 hz0 hz1 hz2 rfl (by decide) A r c _ (by simp [Act.eval]) OWA.out ⟨w1.heap.size, 0, none⟩ 1 1 [.int .u32 (xd : Int), .int .u32 0] (by simp [Act.eval]) rfl HLIT.out HCE.out (by decide) HMX.out (by omega) HLO.out ?_)
                      intro v6 w6 ho6 hg6 hn6 hfit6
                      obtain ⟨A7, d7, rfl, hnd7⟩ := own_slice' ho6
                      have hne6 : (Value.slice A r c).ownBlock ≠ some G := fun e => by have := (OWA.out.lt G e).1; have := HG.out.1; omega
                      have hb6 := (BG1.out.past HBA.out).grown hg6 hne6
                      have e7 := hb6.cell (i := 1) rfl
                      have y7 := hb6.frozen 1
                      have HO6 := Lib.hid (And.intro ho6 (And.intro hg6 (And.intro hn6 hb6)))
                      clear ho6 hg6 hn6 hfit6 hb6 hne6)

       all_goals
         go_wp2_with fail
         go_meet
         obtain ⟨ho6, hg6, hn6, hb6⟩ := HO6.out
         have hne6 : (Value.slice A r c).ownBlock ≠ some H := fun e => by have := (HOR.out.lt H e).2; have := HHE.out; omega
         have hgh : G ≠ H := by have := HG.out; have := HHE.out; omega
         refine Lib.hid ⟨⟨A7, r + 1, d7, arcM As, 0, hb6.set 1 _, ?_, HL.out, rfl, ?_, ?_, ?_⟩, ?_, ?_⟩
         · rw [arcCells_append]
           exact ownsRow_setCell_below ho6 (a := ⟨G, 1, none⟩) HG.out.1 _
         · rw [HADD.out, Nat.zero_add]
         · have := HX.out.2.2; simpa using this
         · rcases hn6 with h | h
           · exact .inl h
           · exact .inr ⟨_, h, by have := HHE.out; have := BN.out.lt; have := HB1.out.size; have := HBA.out.size; omega⟩
         · exact (((BN1.out.past HBA.out).grown hg6 hne6).other (p := ⟨G, 1, none⟩) hgh _)
         · have hbw : Below w.heap.size w wa := HB0.out.trans ((HB1.out.trans (HBA.out.mono HB1.out.size)).mono HB0.out.size)
           exact ((Out.of_below hbw).grown hg6 (fun k e => .inl (.inr e))).setCell (p := ⟨G, 1, none⟩) (.inl (.inl rfl)) _
     · obtain ⟨a, A', hA', hda, hlA, hadd2, hasm⟩ := hadd
       have HADD := Lib.hid (And.intro hA' (And.intro hda (And.intro hlA (And.intro hadd2 hasm))))
       have HR1 := Lib.hid hr1
       clear hA' hda hlA hadd2 hasm hr1
       go_wp2_with fail
       go_meet
       obtain ⟨hA', hda, hlA, hadd2, hasm⟩ := HADD.out
       refine Lib.hid ⟨⟨A, n, c, arcM A', a.wgt, BG1.out, ?_, hlA, HR1.out.symm, ?_, ?_, .inl rfl⟩, BN1.out, ?_⟩
       · have := OW1.out
         rw [hasm, hda] at this
         exact this
       · rw [hadd2, hda]
       · exact (HUP.out a A' hA').2.2
       · exact Out.of_below (HB0.out.trans (HB1.out.mono HB0.out.size))
    case rest =>
      obtain ⟨⟨A5, n5, c5, M, v0, hbG, hown, hMl, hn5, harc, hv0, hloc⟩, hbH, hout⟩ := hcut.out
      obtain ⟨g, cap, hform, hgb, -⟩ := hown.form (by omega)
      injection hform with h1 h2 h3
      subst h1 h3
      have hgG : G ≠ g := by have := HG.out; omega
      have hcell : arcCells (M ++ [⟨xd, v0⟩]) = arcCells M ++ [.int .u32 (xd : Int), .int .u32 (v0 : Int)] := by rw [arcCells_append]; rfl
      have hlen : (arcCells M).length = r * 2 := by rw [arcCells_length, hMl]
      have w0c : wc.cell? ⟨g, r * 2 + 1, none⟩ = some (.int .u32 (v0 : Int)) := by
        have := hown.cellAt (r * 2 + 1) (by omega)
        rw [this, hcell, List.getElem?_append_right (by omega), show r * 2 + 1 - (arcCells M).length = 1 by omega]
        rfl
      have w0f : wc.frozen? ⟨g, r * 2 + 1, none⟩ = false := hown.frozenAt _
      have m1 := hbG.cell (i := 1) rfl
      have k2 := hbH.cell (i := 2) rfl
      have k0 := hbH.cell (i := 0) rfl
      have k1 := hbH.cell (i := 1) rfl
      replace hv0 : v0 + xw < 4294967296 := hv0
      obtain ⟨u, hu⟩ : ∃ u, u = v0 + xw := ⟨_, rfl⟩
      have hwr : IntKind.u32.wrap ((v0 : Int) + (xw : Int)) = (u : Int) := by rw [IntKind.wrap_u32]; omega
      have HU := Lib.hid hu
      have HMID := Lib.hid (And.intro hbG (And.intro hown (And.intro hbH hout)))
      have HMQ := Lib.hid (And.intro hMl (And.intro harc (And.intro hloc (And.intro hgG (And.intro hcell hlen)))))
      have hr5 : r < n5 := by omega
      have hr5' : (r : Int) < (n5 : Int) := by omega
      have hr50 : (0 : Int) ≤ (r : Int) := by omega
      have HN5 := Lib.hid hn5
      clear hcut hbG hown hbH hout hMl harc hloc hgG hcell hlen hgb hu hv0 hn5 n0 n1 n2 g1 f1
      go_wp2_with fail
      go_region
      obtain ⟨wd, hwd⟩ : ∃ wd, wd = (wc.setCell ⟨g, r * 2 + 1, none⟩ (.int .u32 (u : Int))).drew := ⟨_, rfl⟩
      have hgh : g ≠ H := by
        rcases HMQ.out.2.2.1 with h | ⟨k, h, hk⟩
        · have h2 := (HOR.out.lt g (by rw [← h]; rfl)).2; have := HHE.out; omega
        · have h' : some g = some k := h
          injection h' with h'
          have := HHE.out; omega
      have BD := Lib.hid (show Blk wd G (mgC f s n5 c5 (some ⟨g, 0, none⟩) y) by rw [hwd]; exact HMID.out.1.other (p := ⟨g, r * 2 + 1, none⟩) (Ne.symm HMQ.out.2.2.2.1) _)
      have BH := Lib.hid (show Blk wd H [.int .u32 (xs : Int), .int .u32 (xd : Int), .int .u32 (xw : Int)] by rw [hwd]; exact HMID.out.2.2.1.other (p := ⟨g, r * 2 + 1, none⟩) hgh _)
      have OD := Lib.hid (show wd.ownsRow lo 59 2 (.slice (some ⟨g, 0, none⟩) n5 c5) n5 (arcCells (M ++ [⟨xd, u⟩])) by
        have h1 := (HMID.out.2.1.stored (r * 2 + 1) (.int .u32 (u : Int))).1
        obtain ⟨-, -, -, -, hce, hle⟩ := HMQ.out
        rw [hce, List.set_append_right _ _ (by omega), show r * 2 + 1 - (arcCells M).length = 1 by omega] at h1
        rw [hwd, arcCells_append]
        exact own_below' h1 (Below.refl _ _).drew)
      have OUD := Lib.hid (show Out (fun k => k = G ∨ (Value.slice A n c).ownBlock = some k) w wd by
        rw [hwd]
        refine (HMID.out.2.2.2.setCell (p := ⟨g, r * 2 + 1, none⟩) ?_ _).trans (out_drew _ _)
        rcases HMQ.out.2.2.1 with h | ⟨k, h, hk⟩
        · exact .inl (.inr (by rw [← h]; rfl))
        · have h' : some g = some k := h
          injection h' with h'
          exact .inr (by show w.heap.size ≤ g; omega))
      have HWD := Lib.hid hwd
      rw [← HWD.out]
      clear hwd m1 k0 k1 k2 w0c w0f hwr
      have m2 := BD.out.cell (i := 2) rfl
      have q2 := BD.out.frozen 2
      have k2 := BH.out.cell (i := 2) rfl
      obtain ⟨z, hz⟩ : ∃ z, z = s + xw := ⟨_, rfl⟩
      have hwr : IntKind.u64.wrap ((s : Int) + (xw : Int)) = (z : Int) := by rw [IntKind.wrap_u64]; omega
      have hwx : IntKind.u64.wrap (xw : Int) = (xw : Int) := by rw [IntKind.wrap_u64]; omega
      have HZ := Lib.hid hz
      clear hz
      go_wp2_with fail
      go_region
      obtain ⟨we, hwe⟩ : ∃ we, we = (wd.setCell ⟨G, 2, none⟩ (.int .u64 (z : Int))).drew := ⟨_, rfl⟩
      have hGH : G ≠ H := by have := HG.out; have := HHE.out; omega
      have BE := Lib.hid (show Blk we G (mgC f z n5 c5 (some ⟨g, 0, none⟩) y) by rw [hwe]; exact BD.out.set 2 _)
      have BI := Lib.hid (show Blk we H [.int .u32 (xs : Int), .int .u32 (xd : Int), .int .u32 (xw : Int)] by rw [hwe]; exact BH.out.other (p := ⟨G, 2, none⟩) hGH _)
      have OE := Lib.hid (show we.ownsRow lo 59 2 (.slice (some ⟨g, 0, none⟩) n5 c5) n5 (arcCells (M ++ [⟨xd, u⟩])) by rw [hwe]; exact own_below' (ownsRow_setCell_below OD.out (a := ⟨G, 2, none⟩) HG.out.1 _) (Below.refl _ _).drew)
      have OUE := Lib.hid (show Out (fun k => k = G ∨ (Value.slice A n c).ownBlock = some k) w we by rw [hwe]; exact (OUD.out.setCell (p := ⟨G, 2, none⟩) (.inl (.inl rfl)) _).trans (out_drew _ _))
      have HWE := Lib.hid hwe
      rw [← HWE.out]
      clear hwe m2 q2 k2 hwr hwx
      have k0 := BI.out.cell (i := 0) rfl
      have k1 := BI.out.cell (i := 1) rfl
      have k2 := BI.out.cell (i := 2) rfl
      have m3 := BE.out.cell (i := 3) rfl
      have m4 := BE.out.cell (i := 4) rfl
      have m5 := BE.out.cell (i := 5) rfl
      have q3 := BE.out.frozen 3
      have q4 := BE.out.frozen 4
      have q5 := BE.out.frozen 5
      go_wp2_with fail
      go_end0
      obtain ⟨hMl, harc, hloc, -, -, -⟩ := HMQ.out
      refine ⟨rfl, ⟨some ⟨g, 0, none⟩, n5, c5, ?_, ?_, ?_, ?_⟩, ?_⟩
      · have h3 := ((BE.out.set 3 (.int .u32 (xs : Int))).set 4 (.int .u32 (xd : Int))).set 5 (.int .u32 (xw : Int))
        rw [HZ.out] at h3
        exact h3
      · rw [harc]
        have h4 := ownsRow_setCell_below (ownsRow_setCell_below (ownsRow_setCell_below OE.out (a := ⟨G, 3, none⟩) HG.out.1 (.int .u32 (xs : Int))) (a := ⟨G, 4, none⟩) HG.out.1 (.int .u32 (xd : Int))) (a := ⟨G, 5, none⟩) HG.out.1 (.int .u32 (xw : Int))
        rw [HU.out] at h4
        exact h4
      · rw [harc, List.length_append, hMl, HN5.out]; rfl
      · rcases hloc with h | ⟨k, h, hk⟩
        · exact .inl h
        · exact .inr ⟨k, h, by omega⟩
      · exact ((OUE.out.setCell (p := ⟨G, 3, none⟩) (.inl (.inl rfl)) _).setCell (p := ⟨G, 4, none⟩) (.inl (.inl rfl)) _).setCell (p := ⟨G, 5, none⟩) (.inl (.inl rfl)) _
end Go.Proofs.Ytniffijjdehnaaa
