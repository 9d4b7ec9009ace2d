/- VarintReads is proved: any row of reads of any bytes is answered as the document says; for every input, no conditions. -/
import Derived.Test.YtclflenaehhbjaaRes
import Derived.Test.YtclflenaehhbjaaPuts
import Derived.Test.YtclflenaehhbjaaActs
import Derived.Deep.RegionHeld3
import Derived.Deep.DeepCutAuto
import Derived.Deep.CutBlock
namespace Go.Proofs.Ytclflenaehhbjaa
open Go.RowKit Me Va

/-- The document's reader in block b: bytes of the memory that came in. -/
def Mdl (W : World) (w : World) (b : Nat) (l : List UInt8) (x : Int) : Prop :=
  ∃ A n c, w.cell? ⟨b, 0, none⟩ = some (.slice A n c) ∧ w.cell? ⟨b, 1, none⟩ = some (.int .i64 x) ∧ w.frozen? ⟨b, 0, none⟩ = false ∧ w.frozen? ⟨b, 1, none⟩ = false ∧
    l.length = n ∧ n ≤ c ∧ n ≤ 70368744177664 ∧ Rd W W.heap.size A l
/-- Both readers, alike, in a world. -/
def Both (W w : World) (g b : Nat) : Prop := ∃ l x, Rdr w g l x ∧ Mdl W w b l x ∧ Below W.heap.size W w
theorem Mdl.past {W w w' : World} {b g : Nat} {l : List UInt8} {x : Int} (h : Mdl W w b l x) (hg : w.grownBy w' (some g)) (hne : b ≠ g) : Mdl W w' b l x := by
  obtain ⟨A, n, c, h0, h1, f0, f1, r⟩ := h
  have hlt : b < w.heap.size := block_lt_of_cell h0
  have k := hg.block b hlt (fun e => hne (by injection e))
  exact ⟨A, n, c, (World.cell?_of_block (a := ⟨b, 0, none⟩) k).trans h0, (World.cell?_of_block (a := ⟨b, 1, none⟩) k).trans h1, (World.frozen?_of_block (a := ⟨b, 0, none⟩) k).trans f0, (World.frozen?_of_block (a := ⟨b, 1, none⟩) k).trans f1, r⟩
theorem rd_back {W w : World} {B : Nat} {A : Option Addr} {l : List UInt8} (h : Rd w B A l) (hb : Below B W w) : Rd W B A l := h.keep fun _ hp => (hb.cell hp).symm
theorem numOf_le (l : List UInt8) (x : Int) (most : Nat) : (numOf l x most).2.1.length ≤ l.length := by
  unfold numOf
  split
  · exact Nat.le_refl _
  · split
    · exact Nat.zero_le _
    · split
      · exact Nat.zero_le _
      · simp
theorem bytesOf_le (l : List UInt8) (x k : Int) : (bytesOf l x k).2.1.length ≤ l.length := by
  unfold bytesOf
  split
  · exact Nat.le_refl _
  · split
    · exact Nat.zero_le _
    · split
      · exact Nat.zero_le _
      · simp
/-- The document's next reader stands in block q, alike with the program's; the elder one's block b may be written. -/
def Mid (W wx : World) (g b q : Nat) (l : List UInt8) (x : Int) : Prop :=
  q ≠ b ∧ b ≠ g ∧ W.heap.size ≤ b ∧ (∃ A n c, wx.cell? ⟨q, 0, none⟩ = some (.slice A n c) ∧ wx.cell? ⟨q, 1, none⟩ = some (.int .i64 x) ∧ l.length = n ∧ n ≤ c ∧ n ≤ 70368744177664 ∧ Rd W W.heap.size A l) ∧
    (∃ v v', wx.cell? ⟨b, 0, none⟩ = some v ∧ wx.cell? ⟨b, 1, none⟩ = some v' ∧ wx.frozen? ⟨b, 0, none⟩ = false ∧ wx.frozen? ⟨b, 1, none⟩ = false) ∧ Rdr wx g l x ∧ Below W.heap.size W wx
theorem Rdr.otherCell {w : World} {g : Nat} {l : List UInt8} {x : Int} (h : Rdr w g l x) {p : Addr} (hp : g < p.block) (u : Value) : Rdr (w.setCell p u) g l x :=
  h.below ((Below.refl _ _).setCell (show g + 1 ≤ p.block from hp) u)
/-- A reader does not feel what is written into another block, if its bytes lie elsewhere too. -/
theorem Rdr.apart {w w' : World} {g b : Nat} {l : List UInt8} {x : Int} (h : Rdr w g l x) (hg : w.grownBy w' (some b)) (hb : g < b) : Rdr w' g l x :=
  h.below ⟨hg.os, hg.tape, hg.output, hg.size, fun k hk => by
    have := h.here
    exact hg.block k (by omega) (fun e => by injection e; omega)⟩
theorem both_of {W wx : World} {g b : Nat} {l : List UInt8} {x : Int} {A : Option Addr} {n c : Nat} {v v' : Value} (hgb : g < b) (hWb : W.heap.size ≤ b) (hl : l.length = n) (hc : n ≤ c) (hn : n ≤ 70368744177664) (hr : Rd W W.heap.size A l)
    (b0 : wx.cell? ⟨b, 0, none⟩ = some v) (b1 : wx.cell? ⟨b, 1, none⟩ = some v') (f0 : wx.frozen? ⟨b, 0, none⟩ = false) (f1 : wx.frozen? ⟨b, 1, none⟩ = false) (hrd : Rdr wx g l x) (hbw : Below W.heap.size W wx) :
    Both W ((wx.setCell ⟨b, 0, none⟩ (.slice A n c)).setCell ⟨b, 1, none⟩ (.int .i64 x)) g b := by
  have hne : (⟨b, 0, none⟩ : Addr) ≠ ⟨b, 1, none⟩ := by simp
  have hne' : (⟨b, 1, none⟩ : Addr) ≠ ⟨b, 0, none⟩ := by simp
  have e1 : (wx.setCell ⟨b, 0, none⟩ (.slice A n c)).cell? ⟨b, 1, none⟩ = some v' := by rw [World.cell?_setCell_other _ _ _ _ hne]; exact b1
  refine ⟨l, x, (hrd.otherCell hgb _).otherCell hgb _, ⟨A, n, c, ?_, World.cell?_setCell_same _ _ _ e1, by simpa using f0, by simpa using f1, hl, hc, hn, hr⟩, (hbw.setCell (p := ⟨b, 0, none⟩) hWb _).setCell (p := ⟨b, 1, none⟩) hWb _⟩
  rw [World.cell?_setCell_other _ _ _ _ hne', World.cell?_setCell_same _ _ _ b0]
theorem Both.drew {W w : World} {g b : Nat} (h : Both W w g b) : Both W w.drew g b := by
  obtain ⟨l, x, h1, h2, h3⟩ := h
  exact ⟨l, x, h1, h2, h3.drew⟩
theorem Both.alloc {W w : World} {g b : Nat} (h : Both W w g b) (o : Obj) : Both W (w.alloc o) g b := by
  obtain ⟨l, x, h1, ⟨A, n, c, m0, m1, f0, f1, r⟩, h3⟩ := h
  have hlt : b < w.heap.size := block_lt_of_cell m0
  have hb : Below w.heap.size w (w.alloc o) := (Below.refl _ _).alloc (Nat.le_refl _) _
  exact ⟨l, x, h1.below (hb.mono (by have := h1.here; omega)), ⟨A, n, c, (hb.cell (p := ⟨b, 0, none⟩) hlt).trans m0, (hb.cell (p := ⟨b, 1, none⟩) hlt).trans m1, (hb.frozen (p := ⟨b, 0, none⟩) hlt).trans f0, (hb.frozen (p := ⟨b, 1, none⟩) hlt).trans f1, r⟩, h3.alloc h3.size _⟩
theorem mid_one {W w5 : World} {g b : Nat} {l : List UInt8} {x : Int} {A : Option Addr} {n c : Nat} {v v' : Value} {t : TypeId} (hgb : g < b) (hWb : W.heap.size ≤ b) (hl : l.length = n) (hc : n ≤ c) (hn : n ≤ 70368744177664) (hr : Rd W W.heap.size A l)
    (b0 : w5.cell? ⟨b, 0, none⟩ = some v) (b1 : w5.cell? ⟨b, 1, none⟩ = some v') (f0 : w5.frozen? ⟨b, 0, none⟩ = false) (f1 : w5.frozen? ⟨b, 1, none⟩ = false) (hrd : Rdr w5 g l x) (hbw : Below W.heap.size W w5) :
    Mid W (w5.alloc (.cells #[.slice A n c, .int .i64 x] t)) g b w5.heap.size l x := by
  have hlt : b < w5.heap.size := block_lt_of_cell b0
  have hh := heap_alloc_new w5 (.cells #[.slice A n c, .int .i64 x] t)
  have hb : Below w5.heap.size w5 (w5.alloc (.cells #[.slice A n c, .int .i64 x] t)) := (Below.refl _ _).alloc (Nat.le_refl _) _
  refine ⟨by omega, by omega, hWb, ⟨A, n, c, ?_, ?_, hl, hc, hn, hr⟩, ⟨v, v', ?_, ?_, ?_, ?_⟩, hrd.below (hb.mono (by omega)), hbw.alloc hbw.size _⟩
  · simp only [World.cell?, hh]; rfl
  · simp only [World.cell?, hh]; rfl
  · rw [hb.cell (p := ⟨b, 0, none⟩) hlt]; exact b0
  · rw [hb.cell (p := ⟨b, 1, none⟩) hlt]; exact b1
  · rw [hb.frozen (p := ⟨b, 0, none⟩) hlt]; exact f0
  · rw [hb.frozen (p := ⟨b, 1, none⟩) hlt]; exact f1
theorem mid_two {W w5 : World} {g b q : Nat} {l : List UInt8} {x : Int} {A : Option Addr} {n c : Nat} {v v' z z' : Value} (hgb : g < b) (hWb : W.heap.size ≤ b) (hbq : b < q) (hl : l.length = n) (hc : n ≤ c) (hn : n ≤ 70368744177664) (hr : Rd W W.heap.size A l)
    (b0 : w5.cell? ⟨b, 0, none⟩ = some v) (b1 : w5.cell? ⟨b, 1, none⟩ = some v') (f0 : w5.frozen? ⟨b, 0, none⟩ = false) (f1 : w5.frozen? ⟨b, 1, none⟩ = false) (hrd : Rdr w5 g l x) (hbw : Below W.heap.size W w5)
    (q0 : w5.cell? ⟨q, 0, none⟩ = some z) (q1 : w5.cell? ⟨q, 1, none⟩ = some z') :
    Mid W ((w5.setCell ⟨q, 0, none⟩ (.slice A n c)).setCell ⟨q, 1, none⟩ (.int .i64 x)) g b q l x := by
  have hne : (⟨q, 0, none⟩ : Addr) ≠ ⟨q, 1, none⟩ := by simp
  have hne' : (⟨q, 1, none⟩ : Addr) ≠ ⟨q, 0, none⟩ := by simp
  have e1 : (w5.setCell ⟨q, 0, none⟩ (.slice A n c)).cell? ⟨q, 1, none⟩ = some z' := by rw [World.cell?_setCell_other _ _ _ _ hne]; exact q1
  have hb : Below q w5 ((w5.setCell ⟨q, 0, none⟩ (.slice A n c)).setCell ⟨q, 1, none⟩ (.int .i64 x)) := ((Below.refl _ _).setCell (p := ⟨q, 0, none⟩) (Nat.le_refl _) _).setCell (p := ⟨q, 1, none⟩) (Nat.le_refl _) _
  refine ⟨by omega, by omega, hWb, ⟨A, n, c, ?_, World.cell?_setCell_same _ _ _ e1, hl, hc, hn, hr⟩, ⟨v, v', ?_, ?_, ?_, ?_⟩, hrd.below (hb.mono (by omega)), hbw.trans (hb.mono (by omega))⟩
  · rw [World.cell?_setCell_other _ _ _ _ hne', World.cell?_setCell_same _ _ _ q0]
  · rw [hb.cell (p := ⟨b, 0, none⟩) hbq]; exact b0
  · rw [hb.cell (p := ⟨b, 1, none⟩) hbq]; exact b1
  · rw [hb.frozen (p := ⟨b, 0, none⟩) hbq]; exact f0
  · rw [hb.frozen (p := ⟨b, 1, none⟩) hbq]; exact f1
/-- What is still so behind the document's call. -/
theorem pack {W w4 W' w5 : World} {g b : Nat} {l : List UInt8} {x : Int} {v v' : Value} (hb5 : Below W'.heap.size W' w5) (hWW : Below W.heap.size W W') (h4 : Below w4.heap.size w4 W') (m0 : w4.cell? ⟨b, 0, none⟩ = some v) (m1 : w4.cell? ⟨b, 1, none⟩ = some v')
    (f0 : w4.frozen? ⟨b, 0, none⟩ = false) (f1 : w4.frozen? ⟨b, 1, none⟩ = false) (hr4 : Rdr w4 g l x) :
    w5.cell? ⟨b, 0, none⟩ = some v ∧ w5.cell? ⟨b, 1, none⟩ = some v' ∧ w5.frozen? ⟨b, 0, none⟩ = false ∧ w5.frozen? ⟨b, 1, none⟩ = false ∧ Rdr w5 g l x ∧ Below W.heap.size W w5 := by
  have hlt : b < w4.heap.size := block_lt_of_cell m0
  have h45 : Below w4.heap.size w4 w5 := h4.trans (hb5.mono h4.size)
  exact ⟨(h45.cell (p := ⟨b, 0, none⟩) hlt).trans m0, (h45.cell (p := ⟨b, 1, none⟩) hlt).trans m1, (h45.frozen (p := ⟨b, 0, none⟩) hlt).trans f0, (h45.frozen (p := ⟨b, 1, none⟩) hlt).trans f1, hr4.below (h45.mono (by have := hr4.here; omega)), hWW.trans (hb5.mono hWW.size)⟩
theorem new_two (w : World) (v v' : Value) (t : TypeId) : (w.alloc (.cells #[v, v'] t)).cell? ⟨w.heap.size, 0, none⟩ = some v ∧ (w.alloc (.cells #[v, v'] t)).cell? ⟨w.heap.size, 1, none⟩ = some v' := by
  have hh := heap_alloc_new w (.cells #[v, v'] t)
  exact ⟨by simp only [World.cell?, hh]; rfl, by simp only [World.cell?, hh]; rfl⟩
/-- What is known of each slot of the round's last region. -/
def readsG (g b : Nat) (A : Option Addr) (n c : Nat) (l : List UInt8) (x : Int) : Gw.Fact := fun t v _ =>
  match t with
  | 5 | 132 | 139 | 147 => v = .pointer (some ⟨g, 0, none⟩)
  | 6 => v = .pointer (some ⟨b, 0, none⟩)
  | 8 | 129 => v = .bool true
  | 133 | 135 => v = .int .i64 x
  | 134 => v = .pointer (some ⟨b, 1, none⟩)
  | 141 => v = .pointer (some ⟨b, 0, none⟩)
  | 140 | 143 => v = .int .i64 (l.length : Int)
  | 142 => v = .slice A n c
  | 148 | 150 => v = .int .i64 (endOf l x)
  | 149 => v = .agg #[.slice A n c, .int .i64 x]
  | 130 | 131 | 136 | 137 | 138 | 144 | 145 | 146 | 151 | 152 => v = .bool false
  | _ => True
theorem bcell {W w1 : World} (hb : Below W.heap.size W w1) : (∀ b o, b < W.heap.size → w1.cell? ⟨b, o, none⟩ = W.cell? ⟨b, o, none⟩) ∧ (∀ b o, b < W.heap.size → w1.frozen? ⟨b, o, none⟩ = W.frozen? ⟨b, o, none⟩) :=
  ⟨fun b o h => hb.cell (p := ⟨b, o, none⟩) h, fun b o h => hb.frozen (p := ⟨b, o, none⟩) h⟩
set_option maxRecDepth 100000 in
set_option maxHeartbeats 2000000 in
theorem reads_law (A L : Option Addr) (n c m d : Nat) (l : List UInt8) (acts : List ActD) (W : World) (hl : l.length = n) (hc : n ≤ c) (hn : n ≤ 1000) (hr : Rd W W.heap.size A l)
    (ha : acts.length = m) (hm : m ≤ 100) (hac : Acts W W.heap.size L acts) :
    Calls Try.prog 4 #[.slice A n c, .slice L m d] W fun e w' => e = .returned (.bool true) ∧ Below W.heap.size W w' := by
  obtain ⟨i0, hi0, hz0, hz1, hz2⟩ := info_parts u8_info
  have d1 : decide ((1000 : Int) < (n : Int)) = false := by simp; omega
  have d2 : decide ((100 : Int) < (m : Int)) = false := by simp; omega
  have hb0 : Below W.heap.size W (W.alloc (.cells #[] 5)) := (Below.refl _ _).alloc (Nat.le_refl _) _
  have HL := Lib.hid hl
  have HR := Lib.hid hr
  have HA := Lib.hid ha
  have HAC := Lib.hid hac
  have HB0 := Lib.hid hb0
  clear hl hr ha hac hb0
  go_enter Try.func4, Try.ntmps4
  go_wp2_with (at_builtin
               refine wpList_app rfl (.tmp 27) (.tmp 28) 22 rfl W.heap.size 5 i0 _ Try.underlying22 hi0 hz0 hz1 hz2 rfl (.slice (some ⟨W.heap.size, 0, none⟩) 0 0) 0 [] rfl (own_empty W _ _ (Nat.le_refl _)) W.heap.size A n c l rfl HL.out (HR.out.below HB0.out) (by omega) HB0.out.size ?_
               intro v1 w1 hown1 hg1 hat1
               have HB1 := Lib.hid (below_app HB0.out (own_empty W _ _ (Nat.le_refl _)) (Nat.le_refl _) HB0.out.size hg1)
               have HW1 := Lib.hid hown1
               clear hat1 hg1 hown1)
  obtain ⟨A1, c1, rfl⟩ := own_slice HW1.out
  have hw1 := HW1.out
  rw [Nat.zero_add, List.nil_append] at hw1
  rw [Nat.zero_add]
  have HR1 := Lib.hid (Rd.of_own hw1)
  clear hw1 HW1
  refine (new_any A1 n c1 l w1 HL.out (by omega) HR1.out).mono ?_
  rintro e w2 ⟨g, rfl, hg2, hs2, hrd2, hb2⟩
  have HG := Lib.hid (Nat.le_trans HB1.out.size hg2)
  have HS2 := Lib.hid hs2
  have HRD2 := Lib.hid hrd2
  have HB2 := Lib.hid (HB1.out.trans (hb2.mono HB1.out.size))
  clear hg2 hs2 hrd2 hb2 HB1 HR1 HB0
  go_wp2_with fail
  have hboth : Both W (w2.alloc (.cells #[.slice A n c, .int .i64 0] 39)) g w2.heap.size := by
    have hh := heap_alloc_new w2 (.cells #[.slice A n c, .int .i64 0] 39)
    refine ⟨l, 0, HRD2.out.below ((Below.refl _ _).alloc HS2.out _), ⟨A, n, c, ?_, ?_, ?_, ?_, HL.out, hc, by omega, HR.out⟩, HB2.out.alloc HB2.out.size _⟩
    · simp only [World.cell?, hh]; rfl
    · simp only [World.cell?, hh]; rfl
    · unfold World.frozen?; rw [hh]; simp
    · unfold World.frozen?; rw [hh]; simp
  have hgb : g < w2.heap.size := HS2.out
  generalize w2.alloc (.cells #[.slice A n c, .int .i64 0] 39) = w3 at hboth ⊢
  generalize w2.heap.size = b at hboth hgb ⊢
  have HBOTH := Lib.hid hboth
  have HG1 : W.heap.size ≤ g := HG.out
  clear hboth HB2 HRD2 HS2 HG
  go_loopw [7] (fun i wr => ∃ k : Nat, k ≤ m ∧ i = .int .i64 k ∧ Hid (Both W wr g b)) (fun i _ => m - (intOf i).toNat)
  case atStart => exact ⟨0, Nat.zero_le _, rfl, HBOTH⟩
  case round =>
    obtain ⟨k, hk, rfl, HBR⟩ := hrel
    clear HBOTH
    by_cases hlt : k < m
    · obtain ⟨l0, x, hrd, hmd, hbw⟩ := HBR.out
      obtain ⟨al, p, rfl, hp, hlb, hc0, hc1, hc2, hb1, hb2, hb3⟩ := (HAC.out.below hbw).at (show k < acts.length by rw [HA.out]; exact hlt)
      obtain ⟨kind, pn, pm⟩ := p
      simp only at hc0 hc1 hc2 hb1 hb2 hb3
      obtain ⟨A0, n0, c0, m0, m1, mf0, mf1, hl0, hc00, hn0, hr0⟩ := id hmd
      have hab : (al.add (k * 3)).block < W.heap.size := by rw [Me.block_add]; exact hlb
      have HRD := Lib.hid hrd
      have HMD := Lib.hid hmd
      have HBW := Lib.hid hbw
      have HC1 := Lib.hid hc1
      have HC2 := Lib.hid hc2
      have HP := Lib.hid hp
      clear hrd hmd hbw hp hc1 hc2
      go_upto_block 2 with fail
      go_cut [8] (fun s8 wx => s8 = .bool true ∧ Hid (Both W wx g b))
      case first =>
        by_cases k0 : kind = 0
        · have e0 : (kind == 0) = true := by rw [k0]; rfl
          clear k0
          have hc2 := HC2.out
          go_wp2_with fail
          refine (num_any g l0 x pm wr HRD.out).mono ?_
          clear m0 m1 mf0 mf1 hl0 hr0 hc2
          obtain ⟨y, l1, x1, hnum⟩ : ∃ y l1 x1, numOf l0 x pm = (y, l1, x1) := ⟨_, _, _, rfl⟩
          rw [hnum]
          rintro e w4 ⟨rfl, hr4, hg4⟩
          have hb4 := below_past hg4 HG1 HBW.out.size
          obtain ⟨A1, n1, c1, m0, m1, mf0, mf1, hl1, hc11, hn1, hr1⟩ := HMD.out.past hg4 (by omega)
          have hc2 : w4.cell? ⟨(al.add (k * 3)).block, (al.add (k * 3)).off + 2, none⟩ = some (.int .u64 (pm : Int)) := (hb4.cell (p := ⟨(al.add (k * 3)).block, (al.add (k * 3)).off + 2, none⟩) hab).trans HC2.out
          have HB4 := Lib.hid (HBW.out.trans hb4)
          have hbl : b < w4.heap.size := block_lt_of_cell m0
          have hal : (al.add (k * 3)).block < w4.heap.size := by have := HB4.out.size; omega
          have n4 : w4.heap.size ≠ b := by omega
          have n7 : w4.heap.size ≠ (al.add (k * 3)).block := by omega
          have HR4 := Lib.hid hr4
          have HNUM := Lib.hid hnum
          have HL1 := Lib.hid hl1
          have HR1 := Lib.hid (hr1.below HB4.out)
          clear hr4 hg4 hb4 hnum hl1 hr1
          have HLE := Lib.hid (show l1.length ≤ l0.length by have := numOf_le l0 x pm; rw [HNUM.out] at this; exact this)
          have HW := Lib.hid (show W.heap.size ≤ b from Nat.le_trans HG1 (Nat.le_of_lt hgb))
          go_upto_region 15 with fail
          go_cut [10, 11] (fun s10 s11 wx => ∃ q, s10 = .int .u64 (y : Int) ∧ s11 = .pointer (some ⟨q, 0, none⟩) ∧ Hid (Mid W wx g b q l1 x1))
          case first =>
            go_region_held3 (fun w' => w'.cell? ⟨b, 0, none⟩ = some (.slice A1 n1 c1) ∧ w'.cell? ⟨b, 1, none⟩ = some (.int .i64 x) ∧ w'.cell? ⟨(al.add (k * 3)).block, (al.add (k * 3)).off + 2, none⟩ = some (.int .u64 (pm : Int))) (refine ⟨?_, ?_, ?_⟩ <;> first | go_keep | (rw [hc5 _ _ (by simp; omega)]; go_keep) | (rw [World.cell?_alloc_lt _ _ _ (by simp; omega), hc5 _ _ (by simp; omega)]; go_keep))
              ((go_at_call 17; refine (rnum_any A1 n1 c1 l0 x pm _ W.heap.size HL1.out hc11 hn1 (by first | exact HR1.out | exact HR1.out.drew | exact (HR1.out.alloc HB4.out.size _).drew | exact HR1.out.drew.alloc HB4.out.size _ | exact HR1.out.alloc HB4.out.size _) (by have := HB4.out.size; simp; omega)).mono ?_; rw [HNUM.out]; rintro e w5 ⟨hb5, A2, n2, c2, rfl, hl2, hc22, hr2⟩; obtain ⟨hc5, hf5⟩ := bcell hb5; have hs5 : w4.heap.size ≤ w5.heap.size := (by have := hb5.size; simp at this; omega); have n5 : w5.heap.size ≠ b := (by omega); have n6 : w5.heap.size ≠ (al.add (k * 3)).block := (by omega)))
            · obtain ⟨b0, b1, f0, f1, hrd5, hbw5⟩ := pack hb5 HB4.out.drew (Below.refl _ _).drew m0 m1 mf0 mf1 HR4.out
              have hmid := Lib.hid (mid_one (t := 39) hgb HW.out hl2 hc22 (by have := HLE.out; have := HL1.out; omega) (rd_back hr2 HB4.out.drew) b0 b1 f0 f1 hrd5 hbw5)
              go_wp2_with fail
              go_meet
              exact ⟨_, rfl, rfl, hmid⟩
            · obtain ⟨b0, b1, f0, f1, hrd5, hbw5⟩ := pack hb5 (HB4.out.alloc HB4.out.size _).drew (((Below.refl _ _).alloc (Nat.le_refl _) _).drew) m0 m1 mf0 mf1 HR4.out
              obtain ⟨z0, z1⟩ := new_two w4 (.slice none 0 0) (.int .i64 0) 39
              have q0 := (hc5 w4.heap.size 0 (by simp)).trans z0
              have q1 := (hc5 w4.heap.size 1 (by simp)).trans z1
              have hmid := Lib.hid (mid_two hgb HW.out hbl hl2 hc22 (by have := HLE.out; have := HL1.out; omega) (rd_back hr2 (HB4.out.alloc HB4.out.size _).drew) b0 b1 f0 f1 hrd5 hbw5 q0 q1)
              clear z0 z1 q0 q1
              go_wp2_with fail
              go_meet
              exact ⟨_, rfl, rfl, hmid⟩
          case rest =>
            obtain ⟨q, rfl, rfl, HM⟩ := hcut
            obtain ⟨hqb, -, -, ⟨A3, n3, c3, q0, q1, hl3, hc3, hn3, hr3⟩, ⟨v, v', b0, b1, f0, f1⟩, hrd5, hbw5⟩ := HM.out
            have hboth := Lib.hid (both_of hgb HW.out hl3 hc3 hn3 hr3 b0 b1 f0 f1 hrd5 hbw5)
            clear hl3 hr3 hrd5 hbw5
            go_wp2_with fail
            go_region
            all_goals
              go_wp2_with fail
              go_meet
              exact ⟨rfl, Lib.hid hboth.out.drew⟩
        · have e0 : (kind == 0) = false := by rw [beq_eq_false_iff_ne]; exact k0
          clear k0
          by_cases k1 : kind = 1
          · have e1 : (kind == 1) = true := by rw [k1]; rfl
            clear k1
            go_wp2_with fail
            refine (signed_any g l0 x wr HRD.out).mono ?_
            clear m0 m1 mf0 mf1 hl0 hr0
            obtain ⟨y, l1, x1, hnum⟩ : ∃ y l1 x1, numOf l0 x top = (y, l1, x1) := ⟨_, _, _, rfl⟩
            rw [hnum]
            rintro e w4 ⟨rfl, hr4, hg4⟩
            have hb4 := below_past hg4 HG1 HBW.out.size
            obtain ⟨A1, n1, c1, m0, m1, mf0, mf1, hl1, hc11, hn1, hr1⟩ := HMD.out.past hg4 (by omega)
            have HB4 := Lib.hid (HBW.out.trans hb4)
            have hbl : b < w4.heap.size := block_lt_of_cell m0
            have HR4 := Lib.hid hr4
            have HNUM := Lib.hid hnum
            have HL1 := Lib.hid hl1
            have HR1 := Lib.hid (hr1.below HB4.out)
            clear hr4 hg4 hb4 hnum hl1 hr1
            have HLE := Lib.hid (show l1.length ≤ l0.length by have := numOf_le l0 x top; rw [HNUM.out] at this; exact this)
            have HW := Lib.hid (show W.heap.size ≤ b from Nat.le_trans HG1 (Nat.le_of_lt hgb))
            go_wp2_with fail
            refine (rsigned_any A1 n1 c1 l0 x w4 W.heap.size HL1.out hc11 hn1 HR1.out HB4.out.size).mono ?_
            rw [HNUM.out]
            rintro e w5 ⟨hb5, A2, n2, c2, rfl, hl2, hc22, hr2⟩
            replace hl2 : l1.length = n2 := hl2
            replace hr2 : Rd w4 W.heap.size A2 l1 := hr2
            obtain ⟨b0, b1, f0, f1, hrd5, hbw5⟩ := pack hb5 HB4.out (Below.refl _ _) m0 m1 mf0 mf1 HR4.out
            have hn2 : n2 ≤ 70368744177664 := by have := HLE.out; have := HL1.out; omega
            have HBOTH := Lib.hid ((both_of hgb HW.out hl2 hc22 hn2 (rd_back hr2 HB4.out) b0 b1 f0 f1 hrd5 hbw5).alloc (.cells #[.slice A2 n2 c2, .int .i64 x1] 39))
            have hb5l : b < w5.heap.size := block_lt_of_cell b0
            clear hl2 hr2 hrd5 hbw5 hb5
            go_wp2_with fail
            go_region
            all_goals
              go_wp2_with fail
              go_meet
              exact ⟨rfl, Lib.hid HBOTH.out.drew⟩
          · have e1 : (kind == 1) = false := by rw [beq_eq_false_iff_ne]; exact k1
            clear k1
            by_cases k2 : kind = 2
            · have e2 : (kind == 2) = true := by rw [k2]; rfl
              clear k2
              have hc1 := HC1.out
              go_wp2_with fail
              refine (bad_any g l0 x pn wr HRD.out).mono ?_
              clear m0 m1 mf0 mf1 hl0 hr0 hc1
              rintro e w4 ⟨rfl, hr4, hg4⟩
              have hb4 := below_past hg4 HG1 HBW.out.size
              have HMD4 := Lib.hid (HMD.out.past hg4 (by omega))
              obtain ⟨A1, n1, c1, m0, m1, mf0, mf1, hl1, hc11, hn1, hr1⟩ := HMD.out.past hg4 (by omega)
              have hc1 : w4.cell? ⟨(al.add (k * 3)).block, (al.add (k * 3)).off + 1, none⟩ = some (.int .i64 pn) := (hb4.cell (p := ⟨(al.add (k * 3)).block, (al.add (k * 3)).off + 1, none⟩) hab).trans HC1.out
              have HB4 := Lib.hid (HBW.out.trans hb4)
              have HR4 := Lib.hid hr4
              have HW := Lib.hid (show W.heap.size ≤ b from Nat.le_trans HG1 (Nat.le_of_lt hgb))
              clear hr4 hg4 hb4 hl1 hr1
              by_cases hx : x = 0
              · have ex : (x == 0) = true := by rw [hx]; rfl
                by_cases hpn : pn = 0
                · have ep : (pn != 0) = false := by rw [hpn]; rfl
                  have hboth := Lib.hid (show Both W w4 g b from ⟨l0, x, by have := HR4.out; unfold spoil at this; rw [if_pos (.inr hpn)] at this; exact this, HMD4.out, HB4.out⟩)
                  clear hx hpn
                  go_wp2_with fail
                  go_meet
                  exact ⟨rfl, hboth⟩
                · have ep : (pn != 0) = true := by rw [bne_iff_ne]; exact hpn
                  have hrd4 : Rdr w4 g [] pn := by have := HR4.out; unfold spoil at this; rw [if_neg (by omega)] at this; exact this
                  have hboth := Lib.hid (both_of (A := none) (n := 0) (c := 0) hgb HW.out rfl (Nat.le_refl _) (by omega) Rd.empty m0 m1 mf0 mf1 hrd4 HB4.out)
                  clear hx hpn hrd4
                  go_wp2_with fail
                  go_meet
                  exact ⟨rfl, hboth⟩
              · have ex : (x == 0) = false := by rw [beq_eq_false_iff_ne]; exact hx
                have hboth := Lib.hid (show Both W w4 g b from ⟨l0, x, by have := HR4.out; unfold spoil at this; rw [if_pos (.inl hx)] at this; exact this, HMD4.out, HB4.out⟩)
                clear hx
                go_wp2_with fail
                go_meet
                exact ⟨rfl, hboth⟩
            · have e2 : (kind == 2) = false := by rw [beq_eq_false_iff_ne]; exact k2
              clear k2
              have hc1 := HC1.out
              go_wp2_with fail
              have hbwr : b < wr.heap.size := block_lt_of_cell m0
              refine (bytes_any g l0 x pn wr HRD.out hb2).mono ?_
              clear m0 m1 mf0 mf1 hl0 hr0 hc1
              obtain ⟨out, l1, x1, hnum⟩ : ∃ out l1 x1, bytesOf l0 x pn = (out, l1, x1) := ⟨_, _, _, rfl⟩
              rw [hnum]
              rintro e w4 ⟨X, n4, c4, rfl, hl4, hc44, ho4, hx4, hr4, hg4⟩
              replace hl4 : out.length = n4 := hl4
              have HO4 := Lib.hid (show w4.ownsRow wr.heap.size 5 1 (.slice X n4 c4) n4 (cellsOf out) from ho4)
              replace hr4 : Rdr w4 g l1 x1 := hr4
              have hb4 := below_past hg4 HG1 HBW.out.size
              obtain ⟨A1, n1, c1, m0, m1, mf0, mf1, hl1, hc11, hn1, hr1⟩ := HMD.out.past hg4 (by omega)
              have hc1 : w4.cell? ⟨(al.add (k * 3)).block, (al.add (k * 3)).off + 1, none⟩ = some (.int .i64 pn) := (hb4.cell (p := ⟨(al.add (k * 3)).block, (al.add (k * 3)).off + 1, none⟩) hab).trans HC1.out
              have HB4 := Lib.hid (HBW.out.trans hb4)
              have hbl : b < w4.heap.size := block_lt_of_cell m0
              have hal : (al.add (k * 3)).block < w4.heap.size := by have := HB4.out.size; omega
              have n4b : w4.heap.size ≠ b := by omega
              have n7 : w4.heap.size ≠ (al.add (k * 3)).block := by omega
              have HR4 := Lib.hid hr4
              have HL4 := Lib.hid hl4
              have HNUM := Lib.hid hnum
              have HL1 := Lib.hid hl1
              have HR1 := Lib.hid (hr1.below HB4.out)
              have HLE := Lib.hid (show l1.length ≤ l0.length by have := bytesOf_le l0 x pn; rw [hnum] at this; exact this)
              have HW := Lib.hid (show W.heap.size ≤ b from Nat.le_trans HG1 (Nat.le_of_lt hgb))
              clear hr4 hg4 hb4 hnum hl1 hr1 hl4 hx4 ho4
              go_upto_region 11 with fail
              go_cut [16, 17] (fun s16 s17 wx => ∃ q Y m5 d5, s16 = .slice Y m5 d5 ∧ s17 = .pointer (some ⟨q, 0, none⟩) ∧ Hid (Mid W wx g b q l1 x1) ∧ Hid (out.length = m5) ∧ Hid (Rd W W.heap.size Y out) ∧ Hid (Below w4.heap.size w4 wx))
              case first =>
                go_region_held3 (fun w' => w'.cell? ⟨b, 0, none⟩ = some (.slice A1 n1 c1) ∧ w'.cell? ⟨b, 1, none⟩ = some (.int .i64 x) ∧ w'.cell? ⟨(al.add (k * 3)).block, (al.add (k * 3)).off + 1, none⟩ = some (.int .i64 pn)) (refine ⟨?_, ?_, ?_⟩ <;> first | go_keep | (rw [hc5 _ _ (by simp; omega)]; go_keep) | (rw [World.cell?_alloc_lt _ _ _ (by simp; omega), hc5 _ _ (by simp; omega)]; go_keep))
                  ((go_at_call 20; refine (rbytes_any A1 n1 c1 l0 x pn _ W.heap.size HL1.out hc11 (by first | exact HR1.out | exact HR1.out.drew | exact (HR1.out.alloc HB4.out.size _).drew | exact HR1.out.drew.alloc HB4.out.size _ | exact HR1.out.alloc HB4.out.size _)).mono ?_; rw [HNUM.out]; rintro e w5 ⟨hb5, Y, m5, d5, A2, n2, c2, rfl, hy, hry, hl2, hc22, hr2⟩; obtain ⟨hc5, hf5⟩ := bcell hb5; have hs5 : w4.heap.size ≤ w5.heap.size := (by have := hb5.size; simp at this; omega); have n5 : w5.heap.size ≠ b := (by omega); have n6 : w5.heap.size ≠ (al.add (k * 3)).block := (by omega)))
                · obtain ⟨b0, b1, f0, f1, hrd5, hbw5⟩ := pack hb5 HB4.out.drew (Below.refl _ _).drew m0 m1 mf0 mf1 HR4.out
                  have hmid := Lib.hid (mid_one (t := 39) hgb HW.out hl2 hc22 (by have := HLE.out; have := HL1.out; omega) (rd_back hr2 HB4.out.drew) b0 b1 f0 f1 hrd5 hbw5)
                  have hyy := Lib.hid hy
                  have hyr := Lib.hid (rd_back hry HB4.out.drew)
                  have h45 := Lib.hid (show Below w4.heap.size w4 (w5.alloc (.cells #[.slice A2 n2 c2, .int .i64 x1] 39)) from ((Below.refl _ _).drew.trans (hb5.mono (Nat.le_refl _))).alloc hs5 _)
                  go_wp2_with fail
                  go_meet
                  exact ⟨_, _, _, _, rfl, rfl, hmid, hyy, hyr, h45⟩
                · obtain ⟨b0, b1, f0, f1, hrd5, hbw5⟩ := pack hb5 (HB4.out.alloc HB4.out.size _).drew (((Below.refl _ _).alloc (Nat.le_refl _) _).drew) m0 m1 mf0 mf1 HR4.out
                  obtain ⟨z0, z1⟩ := new_two w4 (.slice none 0 0) (.int .i64 0) 39
                  have q0 := (hc5 w4.heap.size 0 (by simp)).trans z0
                  have q1 := (hc5 w4.heap.size 1 (by simp)).trans z1
                  have hmid := Lib.hid (mid_two hgb HW.out hbl hl2 hc22 (by have := HLE.out; have := HL1.out; omega) (rd_back hr2 (HB4.out.alloc HB4.out.size _).drew) b0 b1 f0 f1 hrd5 hbw5 q0 q1)
                  have hyy := Lib.hid hy
                  have hyr := Lib.hid (rd_back hry (HB4.out.alloc HB4.out.size _).drew)
                  have h45 := Lib.hid (show Below w4.heap.size w4 ((w5.setCell ⟨w4.heap.size, 0, none⟩ (.slice A2 n2 c2)).setCell ⟨w4.heap.size, 1, none⟩ (.int .i64 x1)) from (((((Below.refl _ _).alloc (Nat.le_refl _) _).drew).trans (hb5.mono (by simp))).setCell (p := ⟨w4.heap.size, 0, none⟩) (Nat.le_refl _) _).setCell (p := ⟨w4.heap.size, 1, none⟩) (Nat.le_refl _) _)
                  clear z0 z1 q0 q1
                  go_wp2_with fail
                  go_meet
                  exact ⟨_, _, _, _, rfl, rfl, hmid, hyy, hyr, h45⟩
              case rest =>
                obtain ⟨q, Y, m5, d5, rfl, rfl, HM, HY, HYR, H45⟩ := hcut
                obtain ⟨hqb, -, -, ⟨A3, n3, c3, q0, q1, hl3, hc3, hn3, hr3⟩, ⟨v, v', b0, b1, f0, f1⟩, hrd5, hbw5⟩ := HM.out
                have hboth := Lib.hid (both_of hgb HW.out hl3 hc3 hn3 hr3 b0 b1 f0 f1 hrd5 hbw5)
                have hoc := own_below HO4.out H45.out
                have hb45 : Below W.heap.size W wc := hbw5
                have k1 := str_any X n4 c4 out wc.drew _ HL4.out (Rd.of_own hoc).drew
                have k2 := str_any Y m5 d5 out wc.drew _ HY.out ((HYR.out.below hb45).drew)
                have hod : ((wc.setCell ⟨b, 0, none⟩ (.slice A3 n3 c3)).setCell ⟨b, 1, none⟩ (.int .i64 x1)).ownsRow wr.heap.size 5 1 (.slice X n4 c4) n4 (cellsOf out) := ownsRow_setCell_below (a := ⟨b, 1, none⟩) (ownsRow_setCell_below (a := ⟨b, 0, none⟩) hoc hbwr _) hbwr _
                have hbd : Below W.heap.size W ((wc.setCell ⟨b, 0, none⟩ (.slice A3 n3 c3)).setCell ⟨b, 1, none⟩ (.int .i64 x1)) := (hb45.setCell (p := ⟨b, 0, none⟩) HW.out _).setCell (p := ⟨b, 1, none⟩) HW.out _
                have k3 := str_any X n4 c4 out ((wc.setCell ⟨b, 0, none⟩ (.slice A3 n3 c3)).setCell ⟨b, 1, none⟩ (.int .i64 x1)).drew _ HL4.out (Rd.of_own hod).drew
                have k4 := str_any Y m5 d5 out ((wc.setCell ⟨b, 0, none⟩ (.slice A3 n3 c3)).setCell ⟨b, 1, none⟩ (.int .i64 x1)).drew _ HY.out ((HYR.out.below hbd).drew)
                clear hl3 hr3 hrd5 hbw5 hoc hb45 hod hbd
                go_wp2_with fail
                go_region
                all_goals
                  go_wp2_with fail
                  go_meet
                  exact ⟨rfl, Lib.hid hboth.out.drew⟩
      case rest =>
        obtain ⟨rfl, HBB⟩ := hcut
        clear m0 m1 mf0 mf1 hl0 hr0 HRD HMD HBW HC1 HC2 HP HBR hc0
        obtain ⟨l2, x2, hrd, ⟨A2, n2, c2, m0, m1, mf0, mf1, hl2, hc22, hn2, hr2⟩, hbw⟩ := HBB.out
        have hbl : b < wc.heap.size := block_lt_of_cell m0
        have hgl := hrd.here
        have HRD := Lib.hid hrd
        have HM0 := Lib.hid m0
        have HM1 := Lib.hid m1
        have HL2 := Lib.hid hl2
        have HBW := Lib.hid hbw
        clear hrd m0 m1 mf0 mf1 hl2 hr2 hbw
        go_wp2_with fail
        refine Gw.wp_region_grow (readsG g b A2 n2 c2 l2 x2) [129, 130, 131, 132, 133, 134, 135, 136, 137, 138, 139, 140, 141, 142, 143, 144, 145, 146, 147, 148, 149, 150, 151, 152] [([8], none), ([129], none), ([130], none), ([5, 131], some (131, false)), ([132, 131], some (131, false)), ([6, 131], some (131, false)), ([134, 131], some (131, false)), ([133, 135, 131], some (131, false)), ([131, 136], none), ([137], none), ([5, 138], some (138, false)), ([139, 138], some (138, false)), ([6, 138], some (138, false)), ([141, 138], some (138, false)), ([142, 138], some (138, false)), ([140, 143, 138], some (138, false)), ([138, 144], none), ([145], none), ([5, 146], some (146, false)), ([147, 146], some (146, false)), ([6, 146], some (146, false)), ([149, 146], some (146, false)), ([148, 150, 146], some (146, false)), ([146, 151], none)] 154 (by kernel_rfl) (by kernel_rfl) rfl ?h0 ?hreq ?hend
        case h0 =>
          intro t W' hnd _
          unfold readsG
          split <;> first | rfl | trivial | exact absurd (by simp) hnd
        case hreq =>
          refine ⟨?_, ?_, ?_, ?_, ?_, ?_, ?_, ?_, ?_, ?_, ?_, ?_, ?_, ?_, ?_, ?_, ?_, ?_, ?_, ?_, ?_, ?_, ?_, ?_, trivial⟩
          all_goals
            intro a W' hg hk
            have m0 : W'.cell? ⟨b, 0, none⟩ = some (.slice A2 n2 c2) := (Below.cell hg (p := ⟨b, 0, none⟩) hbl).trans HM0.out
            have m1 : W'.cell? ⟨b, 1, none⟩ = some (.int .i64 x2) := (Below.cell hg (p := ⟨b, 1, none⟩) hbl).trans HM1.out
            simp only [Gw.Knows, readsG] at hk
            try (simp [go_sem, Gw.OpReq, Gw.Ok, Gw.Post, Gw.Holds, readsG, Gw.Grows.refl, hk, m0, m1]; done)
          · simp [go_sem, Gw.OpReq, Gw.Ok, Gw.Post, Gw.Holds, readsG, Gw.Grows.refl, hk]
            refine (err_any g l2 x2 W' (HRD.out.below (Below.mono hg (by omega)))).mono ?_
            rintro e w5 ⟨rfl, rfl⟩
            exact ⟨_, rfl, Gw.Grows.refl _, fun _ _ => rfl⟩
          · simp [go_sem, Gw.OpReq, Gw.Ok, Gw.Post, Gw.Holds, readsG, Gw.Grows.refl, hk]
            refine (left_any g l2 x2 W' (HRD.out.below (Below.mono hg (by omega)))).mono ?_
            rintro e w5 ⟨rfl, rfl⟩
            exact ⟨_, rfl, Gw.Grows.refl _, fun _ _ => rfl⟩
          · have hz : (n2 : Int) = (l2.length : Int) := by rw [HL2.out]
            simp [go_sem, Gw.OpReq, Gw.Ok, Gw.Post, Gw.Holds, readsG, Gw.Grows.refl, hk, hz]
          · simp [go_sem, Gw.OpReq, Gw.Ok, Gw.Post, Gw.Holds, readsG, Gw.Grows.refl, hk]
            refine (end_any g l2 x2 W' (HRD.out.below (Below.mono hg (by omega)))).mono ?_
            rintro e w5 ⟨rfl, rfl⟩
            exact ⟨_, rfl, Gw.Grows.refl _, fun _ _ => rfl⟩
          · simp [go_sem, Gw.OpReq, Gw.Ok, Gw.Post, Gw.Holds, readsG, Gw.Grows.refl, hk]
            refine (rend_any A2 n2 c2 l2 x2 W' HL2.out).mono ?_
            rintro e w5 ⟨rfl, hb⟩
            exact ⟨_, rfl, hb, fun _ _ => rfl⟩
        case hend =>
          intro y w' hg hx
          have h4 : y 152 = .bool false := (hx 152 (by simp)).now
          have hboth := Lib.hid (show Both W w' g b from by
            obtain ⟨l3, x3, r1, ⟨A3, n3, c3, p0, p1, pf0, pf1, r⟩, r3⟩ := HBB.out
            exact ⟨l3, x3, r1.below (Below.mono hg (by omega)), ⟨A3, n3, c3, (Below.cell hg (p := ⟨b, 0, none⟩) hbl).trans p0, (Below.cell hg (p := ⟨b, 1, none⟩) hbl).trans p1, (Below.frozen hg (p := ⟨b, 0, none⟩) hbl).trans pf0, (Below.frozen hg (p := ⟨b, 1, none⟩) hbl).trans pf1, r⟩, r3.trans (Below.mono hg r3.size)⟩)
          simp only [Gw.putAll, Act.put, List.setIfInBounds_toArray, List.set_cons_zero, List.set_cons_succ]
          rw [h4]
          clear hx h4
          go_wp2_with fail
          go_roundw
          case rel => exact ⟨k + 1, by omega, by go_num, hboth⟩
          case measure => simp [intOf]; omega
    · obtain ⟨l2, x2, -, -, hbw⟩ := HBR.out
      have HBW := Lib.hid hbw
      clear hbw
      go_wp2_with (go_at_call 7; refine (awake_any _).mono ?_; rintro e w5 ⟨rfl, hb5⟩)
      go_ret
      exact ⟨rfl, HBW.out.trans (hb5.mono HBW.out.size)⟩
theorem reads_long (A L : Option Addr) (n c m d : Nat) (W : World) (h : 1000 < n ∨ 100 < m) :
    Calls Try.prog 4 #[.slice A n c, .slice L m d] W fun e w' => e = .returned (.bool true) ∧ Below W.heap.size W w' := by
  by_cases hn : 1000 < n
  · have h1 : decide ((1000 : Int) < (n : Int)) = true := by simp; omega
    clear h
    go_enter Try.func4, Try.ntmps4
    go_wp2_with (go_at_call 7; refine (awake_any _).mono ?_; rintro e w1 ⟨rfl, hb⟩)
    go_ret
    exact ⟨rfl, hb⟩
  · have h1 : decide ((1000 : Int) < (n : Int)) = false := by simp; omega
    have h2 : decide ((100 : Int) < (m : Int)) = true := by simp; omega
    clear h
    go_enter Try.func4, Try.ntmps4
    go_wp2_with (go_at_call 7; refine (awake_any _).mono ?_; rintro e w1 ⟨rfl, hb⟩)
    go_ret
    exact ⟨rfl, hb⟩
open Go.ChangeShapes Go.WideShapes Go.ChangeAt Go.Joins
set_option maxRecDepth 100000 in
theorem varintReads_lifted (os : Os) (started : os.Started) (H : Type) (enc : TypeId × Value → H) :
    ReturnsInHanded {} Try.checked os 4 .any (Rows.varintReadsSpec.pre6 enc Try.prog Try.f4 Rows.varintReadsRow.domain false) (Rows.varintReadsSpec.post enc Try.prog Try.f4 false true false false) := by
  refine returnsInHanded_of_change (C := Try.checked) own started (by kernel_rfl) Try.func4
    (ChangeSpec.witness6 (enc := enc) (C := Try.checked) false ⟨#[], #[.slice none 0 0, .slice none 0 0], []⟩ 8 (by kernel_rfl) (by kernel_rfl) (by kernel_rfl) (by kernel_rfl)) ?_
  intro W base args ds gs before hval0 hW hcnd _
  have hval : ∀ (j : Nat) t v, Try.f4.params[j]? = some t → args[j]? = some v → Value.okWide Try.prog W .any base t v := hval0
  have hW' := hW
  obtain ⟨p, q, hA0, hV, rfl, hfz, hnd⟩ := hW
  have hA : DataW.TrodAll enc Try.prog W 0 (fun _ => true) true Try.f4.params.toList args.toList ds p := hA0
  rw [Try.params4] at hA hval
  obtain ⟨v0, v1, d0, d1, p0, p1, rfl, rfl, rfl, h0, h1⟩ := trodAll_two hA
  obtain ⟨A, n, c, l, rfl, hl, hc, hc63, hr⟩ := open_bytes Try.underlying22 Try.underlying5 cells_u8 (hval 0 22 v0 rfl rfl) h0
  obtain ⟨L, m, d, acts, rfl, ha, -, -, hac⟩ := open_acts Try.underlying37 Try.underlying41 (by kernel_rfl) (by kernel_rfl) rfl rfl rfl Try.underlying3 Try.underlying23 (hval 1 37 v1 rfl rfl) h1
  have hwalk : Calls Try.prog 4 #[.slice A n c, .slice L m d] W fun e w' => e = .returned (.bool true) ∧ Below W.heap.size W w' := by
    by_cases h : 1000 < n ∨ 100 < m
    · exact reads_long A L n c m d W h
    · exact reads_law A L n c m d l acts W hl hc (by omega) hr ha (by omega) hac
  refine hwalk.mono fun e W' ⟨he, hb⟩ => ?_
  subst he
  exact ⟨_, rfl, Lw.post_true laidOut (by kernel_rfl) rfl rfl rfl rfl (by kernel_rfl) Try.underlying4 hW' hb⟩

/-- VarintReads: any row of reads of any bytes is answered as the document says. -/
theorem varintReads_holds : Rows.VarintReadsSaid :=
  OpenClaim.holds_of_wide 4 Try.f4 rfl rfl rfl rfl rfl rfl rfl ⟨rfl, rfl, rfl, rfl, rfl⟩ rfl rfl rfl rfl rfl (by kernel_rfl) Try.func4 (by kernel_rfl)
    (of_decide_eq_true (by kernel_rfl)) (by unfold Func.isWrapper; rw [if_neg (of_decide_eq_false (by kernel_rfl))]; exact ⟨rfl, rfl⟩)
    (fun os started H enc _ => varintReads_lifted os started H enc)
#print axioms varintReads_holds
end Go.Proofs.Ytclflenaehhbjaa
