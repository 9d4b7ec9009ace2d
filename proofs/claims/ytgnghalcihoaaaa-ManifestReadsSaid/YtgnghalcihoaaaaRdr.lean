/- A reader in memory, and what its methods answer. -/
import Derived.Test.YtgnghalcihoaaaaClo
import Derived.Test.YtgnghalcihoaaaaFst
import Derived.Test.YtgnghalcihoaaaaCel
import Derived.Maps.AppendAt
import Derived.Deep.RegionHeld
namespace Go.Proofs.Ytgnghalcihoaaaa
open Go.RowKit Me Va

/-- A reader in block g: what it has left, and its error's number. -/
def Rdr (w : World) (g : Nat) (l : List UInt8) (x : Int) : Prop :=
  ∃ A n c, w.cell? ⟨g, 0, none⟩ = some (.slice A n c) ∧ w.cell? ⟨g, 1, none⟩ = some (.int .i64 x) ∧ w.frozen? ⟨g, 0, none⟩ = false ∧ w.frozen? ⟨g, 1, none⟩ = false ∧
    l.length = n ∧ n ≤ c ∧ n ≤ 70368744177664 ∧ Rd w g A l ∧ (x ≠ 0 → l = [])
section
variable {w w' : World} {g : Nat} {l : List UInt8} {x : Int}
theorem Rdr.below (h : Rdr w g l x) (hb : Below (g + 1) w w') : Rdr w' g l x := by
  obtain ⟨A, n, c, h0, h1, f0, f1, hl, hc, hn, hr, hx⟩ := h
  have e0 := hb.cell (p := ⟨g, 0, none⟩) (show g < g + 1 by omega)
  have e1 := hb.cell (p := ⟨g, 1, none⟩) (show g < g + 1 by omega)
  have e2 := hb.frozen (p := ⟨g, 0, none⟩) (show g < g + 1 by omega)
  have e3 := hb.frozen (p := ⟨g, 1, none⟩) (show g < g + 1 by omega)
  exact ⟨A, n, c, e0.trans h0, e1.trans h1, e2.trans f0, e3.trans f1, hl, hc, hn, hr.below (hb.mono (by omega)), hx⟩
/-- A reader whose cells are laid anew. -/
theorem Rdr.set {A : Option Addr} {n c : Nat} {m : List UInt8} {y : Int} (h : Rdr w g l x) (hl : m.length = n) (hc : n ≤ c) (hn : n ≤ 70368744177664) (hr : Rd w g A m) (hy : y ≠ 0 → m = []) :
    Rdr ((w.setCell ⟨g, 0, none⟩ (.slice A n c)).setCell ⟨g, 1, none⟩ (.int .i64 y)) g m y := by
  obtain ⟨A0, n0, c0, h0, h1, f0, f1, -⟩ := h
  have hne : (⟨g, 0, none⟩ : Addr) ≠ ⟨g, 1, none⟩ := by simp
  have hne' : (⟨g, 1, none⟩ : Addr) ≠ ⟨g, 0, none⟩ := by simp
  have e1 : (w.setCell ⟨g, 0, none⟩ (.slice A n c)).cell? ⟨g, 1, none⟩ = some (.int .i64 x) := by rw [World.cell?_setCell_other _ _ _ _ hne]; exact h1
  refine ⟨A, n, c, ?_, World.cell?_setCell_same _ _ _ e1, by simpa using f0, by simpa using f1, hl, hc, hn, (hr.setCell (Nat.le_refl _) _).setCell (Nat.le_refl _) _, hy⟩
  rw [World.cell?_setCell_other _ _ _ _ hne', World.cell?_setCell_same _ _ _ h0]
theorem Rdr.setLeft {A : Option Addr} {n c : Nat} {m : List UInt8} (h : Rdr w g l x) (hl : m.length = n) (hc : n ≤ c) (hn : n ≤ 70368744177664) (hr : Rd w g A m) (hx : x ≠ 0 → m = []) :
    Rdr (w.setCell ⟨g, 0, none⟩ (.slice A n c)) g m x := by
  obtain ⟨A0, n0, c0, h0, h1, f0, f1, -⟩ := h
  have hne : (⟨g, 0, none⟩ : Addr) ≠ ⟨g, 1, none⟩ := by simp
  exact ⟨A, n, c, World.cell?_setCell_same _ _ _ h0, by rw [World.cell?_setCell_other _ _ _ _ hne]; exact h1, by simpa using f0, by simpa using f1, hl, hc, hn, hr.setCell (Nat.le_refl _) _, hx⟩
theorem Rdr.here (h : Rdr w g l x) : g < w.heap.size := by
  obtain ⟨A, n, c, h0, -⟩ := h
  exact block_lt_of_cell h0
end
/-- A method's answer, and the reader behind it; nothing else has turned. -/
def Reads (w : World) (g : Nat) (v : Value) (l : List UInt8) (x : Int) (e : Ending) (w' : World) : Prop := e = .returned v ∧ Rdr w' g l x ∧ w.grownBy w' (some g)
/-- Made bad. -/
def spoil (l : List UInt8) (x y : Int) : List UInt8 × Int := if x ≠ 0 ∨ y = 0 then (l, x) else ([], y)
set_option maxRecDepth 100000 in
set_option maxHeartbeats 400000 in
theorem bad_any (g : Nat) (l : List UInt8) (x y : Int) (w : World) (h : Rdr w g l x) :
    Calls Try.prog 87 #[.pointer (some ⟨g, 0, none⟩), .int .i64 y] w (Reads w g (.tuple #[]) (spoil l x y).1 (spoil l x y).2) := by
  have HH := Lib.hid h
  obtain ⟨A, n, c, h0, h1, f0, f1, -⟩ := h
  by_cases hs : x ≠ 0 ∨ y = 0
  · have hp := Lib.hid (show spoil l x y = (l, x) by unfold spoil; rw [if_pos hs])
    rw [hp.out]
    by_cases hx : x = 0
    · have hy := hs.resolve_left (fun e => e hx)
      have d1 : (x != 0) = false := by rw [hx]; rfl
      have d2 : (y == 0) = true := by rw [hy]; rfl
      clear hx hy hs
      go_enter Try.func87, Try.ntmps87
      go_wp2
      refine bodyPost_ret (results_none rfl _ _ _) rfl ?_
      exact ⟨rfl, HH.out, World.grownBy.refl _ _⟩
    · have d1 : (x != 0) = true := by rw [bne_iff_ne]; exact hx
      clear hx hs
      go_enter Try.func87, Try.ntmps87
      go_wp2
      refine bodyPost_ret (results_none rfl _ _ _) rfl ?_
      exact ⟨rfl, HH.out, World.grownBy.refl _ _⟩
  · have hp := Lib.hid (show spoil l x y = ([], y) by unfold spoil; rw [if_neg hs])
    rw [hp.out]
    have hx : x = 0 := by omega
    have hy : y ≠ 0 := by omega
    have d1 : (x != 0) = false := by rw [hx]; rfl
    have d2 : (y == 0) = false := by rw [beq_eq_false_iff_ne]; exact hy
    have hset := Lib.hid (HH.out.set (A := none) (n := 0) (c := 0) (m := []) (y := y) rfl (Nat.le_refl _) (by omega) Rd.empty (fun _ => rfl))
    have hgr := Lib.hid ((grownBy_set w ⟨g, 0, none⟩ (.slice none 0 0)).trans (grownBy_set _ ⟨g, 1, none⟩ (.int .i64 y)))
    clear hx hy hs
    go_enter Try.func87, Try.ntmps87
    go_wp2
    go_end0
    exact ⟨rfl, hset.out, hgr.out⟩
theorem err_any (g : Nat) (l : List UInt8) (x : Int) (w : World) (h : Rdr w g l x) :
    Calls Try.prog 65 #[.pointer (some ⟨g, 0, none⟩)] w fun e w' => e = .returned (.int .i64 x) ∧ w = w' := by
  obtain ⟨A, n, c, h0, h1, f0, f1, -⟩ := h
  go_enter Try.func65, Try.ntmps65
  go_wp2
  go_ret
  exact ⟨rfl, rfl⟩
theorem left_any (g : Nat) (l : List UInt8) (x : Int) (w : World) (h : Rdr w g l x) :
    Calls Try.prog 67 #[.pointer (some ⟨g, 0, none⟩)] w fun e w' => e = .returned (.int .i64 l.length) ∧ w = w' := by
  obtain ⟨A, n, c, h0, h1, f0, f1, hl, -⟩ := h
  have HL := Lib.hid hl
  clear hl
  go_enter Try.func67, Try.ntmps67
  go_wp2
  go_ret
  exact ⟨ret_int (by rw [HL.out]), rfl⟩
/-- The end's number. -/
def endOf (l : List UInt8) (x : Int) : Int := if x = 0 ∧ 0 < l.length then 4 else x
theorem end_any (g : Nat) (l : List UInt8) (x : Int) (w : World) (h : Rdr w g l x) :
    Calls Try.prog 33 #[.pointer (some ⟨g, 0, none⟩)] w fun e w' => e = .returned (.int .i64 (endOf l x)) ∧ w = w' := by
  have HH := Lib.hid h
  clear h
  by_cases hx : x = 0
  · have d1 : (x == 0) = true := by rw [hx]; rfl
    by_cases hl : 0 < l.length
    · have hp := Lib.hid (show endOf l x = 4 by unfold endOf; rw [if_pos ⟨hx, hl⟩])
      clear hx
      go_enter Try.func33, Try.ntmps33
      go_wp2_with (first
        | (go_at_call 65; refine (err_any g l x w HH.out).mono ?_; rintro e w' ⟨rfl, rfl⟩)
        | (go_at_call 67; refine (left_any g l x w HH.out).mono ?_; rintro e w' ⟨rfl, rfl⟩))
      go_ret
      exact ⟨ret_int hp.out.symm, rfl⟩
    · have hp := Lib.hid (show endOf l x = x by unfold endOf; rw [if_neg (by omega)])
      clear hx
      go_enter Try.func33, Try.ntmps33
      go_wp2_with (first
        | (go_at_call 65; refine (err_any g l x w HH.out).mono ?_; rintro e w' ⟨rfl, rfl⟩)
        | (go_at_call 67; refine (left_any g l x w HH.out).mono ?_; rintro e w' ⟨rfl, rfl⟩))
      go_ret
      exact ⟨ret_int hp.out.symm, rfl⟩
  · have d1 : (x == 0) = false := by rw [beq_eq_false_iff_ne]; exact hx
    have hp := Lib.hid (show endOf l x = x by unfold endOf; rw [if_neg (by omega)])
    clear hx
    go_enter Try.func33, Try.ntmps33
    go_wp2_with (go_at_call 65; refine (err_any g l x w HH.out).mono ?_; rintro e w' ⟨rfl, rfl⟩)
    go_ret
    exact ⟨ret_int hp.out.symm, rfl⟩
/-- A new reader. -/
def NewPost (w : World) (l : List UInt8) (e : Ending) (w' : World) : Prop := ∃ g, e = .returned (.pointer (some ⟨g, 0, none⟩)) ∧ w.heap.size ≤ g ∧ g < w'.heap.size ∧ Rdr w' g l 0 ∧ Below w.heap.size w w'
set_option maxRecDepth 100000 in
set_option maxHeartbeats 400000 in
theorem new_any (A : Option Addr) (n c : Nat) (l : List UInt8) (w : World) (hl : l.length = n) (hn : n ≤ 70368744177664) (hr : Rd w w.heap.size A l) :
    Calls Try.prog 31 #[.slice A n c] w (NewPost w l) := by
  have HL := Lib.hid hl
  have HR := Lib.hid hr
  clear hl hr
  go_enter Try.func31, Try.ntmps31
  go_wp2_with fail
  refine (clone_any A n c l w HL.out hn HR.out).mono ?_
  intro e w1 h
  obtain ⟨A1, n1, c1, rfl, hl1, hc1, -, hr1, hb1⟩ := h.open
  have HL1 := Lib.hid hl1
  have HR1 := Lib.hid hr1
  have HB1 := Lib.hid hb1
  clear hl1 hr1 hb1 h
  go_wp2
  go_ret
  have hh : (w1.alloc (.cells #[.slice A1 n1 c1, .int .i64 0] 112)).heap[w1.heap.size]? = some (.cells #[.slice A1 n1 c1, .int .i64 0] 112) := heap_alloc_new w1 _
  refine ⟨w1.heap.size, rfl, HB1.out.size, by simp, ⟨A1, n1, c1, ?_, ?_, ?_, ?_, HL1.out, hc1, by have := HL1.out; have := HL.out; omega, HR1.out.alloc (Nat.le_refl _) _, fun e => absurd rfl e⟩, HB1.out.alloc HB1.out.size _⟩
  · simp only [World.cell?, hh]; rfl
  · simp only [World.cell?, hh]; rfl
  · unfold World.frozen?; rw [hh]; simp
  · unfold World.frozen?; rw [hh]; simp
/-- The next number. -/
def numOf (l : List UInt8) (x : Int) (most : Nat) : Nat × List UInt8 × Int :=
  if x ≠ 0 then (0, l, x) else if (pars 0 0 l).2.2 ≠ 0 then (0, [], (pars 0 0 l).2.2) else if most < (pars 0 0 l).1 then (0, [], 9) else ((pars 0 0 l).1, l.drop (pars 0 0 l).2.1, 0)
set_option maxRecDepth 100000 in
set_option maxHeartbeats 1000000 in
theorem num_any (g : Nat) (l : List UInt8) (x : Int) (most : Nat) (w : World) (h : Rdr w g l x) :
    Calls Try.prog 64 #[.pointer (some ⟨g, 0, none⟩), .int .u64 (most : Int)] w (Reads w g (.int .u64 ((numOf l x most).1 : Int)) (numOf l x most).2.1 (numOf l x most).2.2) := by
  have HH := Lib.hid h
  obtain ⟨A, n, c, h0, h1, f0, f1, hl, hc, hn, hr, hx⟩ := h
  have HL := Lib.hid hl
  have HR := Lib.hid hr
  have HX := Lib.hid hx
  clear hl hr hx
  obtain ⟨y, k, z, hp⟩ : ∃ y k z, pars 0 0 l = (y, k, z) := ⟨_, _, _, rfl⟩
  have hbnd := pars_bounds l 0 0 y k z hp
  have hy := pars_fits hp
  have HP := Lib.hid hp
  clear hp
  by_cases hz : z = 0
  · -- a number stands there
    have d1 : (z == 0) = true := by rw [hz]; rfl
    have d3 : (z != 0) = false := by rw [hz]; rfl
    have hk : k ≤ n := by have := HL.out; omega
    have hx0 : x = 0 := by
      rcases Classical.em (x = 0) with e | e
      · exact e
      · have := HX.out e
        have := HL.out
        subst l
        have := HP.out
        simp [pars] at this
        omega
    have HX0 := Lib.hid hx0
    have HZ := Lib.hid hz
    clear hx0 hz
    by_cases hm : most < y
    · have d2 : decide ((most : Int) < (y : Int)) = true := by simp; omega
      have hnum := Lib.hid (show numOf l x most = (0, [], 9) by unfold numOf; rw [if_neg (by rw [HX0.out]; simp), HP.out, if_neg (by rw [HZ.out]; simp), if_pos hm])
      rw [hnum.out]
      go_enter Try.func64, Try.ntmps64
      go_wp2_with fail
      refine (first_any A n c l w g HL.out hn HR.out).mono ?_
      rintro e w' ⟨rfl, rfl⟩
      rw [HP.out]
      go_wp2_with fail
      refine (bad_any g l x 9 w HH.out).mono ?_
      rw [show spoil l x 9 = ([], 9) by unfold spoil; rw [if_neg (by rw [HX0.out]; decide)]]
      rintro e w1 ⟨rfl, hr1, hg1⟩
      have HR1 := Lib.hid hr1
      have HG1 := Lib.hid hg1
      clear hr1 hg1
      go_wp2
      go_ret
      exact ⟨rfl, HR1.out, HG1.out⟩
    · have d2 : decide ((most : Int) < (y : Int)) = false := by simp; omega
      have hnum := Lib.hid (show numOf l x most = (y, l.drop k, 0) by unfold numOf; rw [if_neg (by rw [HX0.out]; simp), HP.out, if_neg (by rw [HZ.out]; simp), if_neg hm])
      have hdr := HR.out.drop (k := k) (cap := c) (by have := HL.out; omega)
      have hdl := Lib.hid (show (l.drop k).length = n - k by rw [List.length_drop, HL.out])
      rw [hnum.out]
      have H0 := Lib.hid (show Rdr w g l 0 by have := HH.out; rw [HX0.out] at this; exact this)
      by_cases hck : c = k
      · rw [if_pos hck] at hdr
        subst hck
        have HS := Lib.hid (H0.out.setLeft (n := 0) (c := 0) (by rw [hdl.out]; omega) (Nat.le_refl _) (by omega) hdr (fun e => absurd rfl e))
        have HG := Lib.hid (grownBy_set w ⟨g, 0, none⟩ (.slice A 0 0))
        clear hdr
        go_enter Try.func64, Try.ntmps64
        go_wp2_with fail
        refine (first_any A n c l w g HL.out hn HR.out).mono ?_
        rintro e w' ⟨rfl, rfl⟩
        rw [HP.out]
        go_wp2
        go_ret
        exact ⟨rfl, HS.out, HG.out⟩
      · rw [if_neg hck] at hdr
        have HS := Lib.hid (H0.out.setLeft hdl.out (show n - k ≤ c - k by omega) (by omega) hdr (fun e => absurd rfl e))
        have HG := Lib.hid (grownBy_set w ⟨g, 0, none⟩ (.slice (A.map (·.add k)) (n - k) (c - k)))
        clear hdr
        go_enter Try.func64, Try.ntmps64
        go_wp2_with fail
        refine (first_any A n c l w g HL.out hn HR.out).mono ?_
        rintro e w' ⟨rfl, rfl⟩
        rw [HP.out]
        go_wp2
        go_ret
        exact ⟨rfl, HS.out, HG.out⟩
  · have d1 : (z == 0) = false := by rw [beq_eq_false_iff_ne]; exact hz
    have d2 : (z != 0) = true := by rw [bne_iff_ne]; exact hz
    have hnum := Lib.hid (show numOf l x most = (0, (spoil l x z).1, (spoil l x z).2) by
      unfold numOf spoil
      by_cases e : x = 0
      · rw [if_neg (by rw [e]; simp), HP.out, if_pos hz, if_neg (by rw [e]; simpa using hz)]
      · rw [if_pos e, if_pos (.inl e)])
    clear hz
    rw [hnum.out]
    go_enter Try.func64, Try.ntmps64
    go_wp2_with fail
    refine (first_any A n c l w g HL.out hn HR.out).mono ?_
    rintro e w' ⟨rfl, rfl⟩
    rw [HP.out]
    go_wp2_with fail
    refine (bad_any g l x z w HH.out).mono ?_
    rintro e w1 ⟨rfl, hr1, hg1⟩
    have HR1 := Lib.hid hr1
    have HG1 := Lib.hid hg1
    clear hr1 hg1
    go_wp2
    go_ret
    exact ⟨rfl, HR1.out, HG1.out⟩
end Go.Proofs.Ytgnghalcihoaaaa
