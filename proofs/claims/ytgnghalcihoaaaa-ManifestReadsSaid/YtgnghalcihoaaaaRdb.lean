/- What else a reader's methods answer: bytes. -/
import Derived.Test.YtgnghalcihoaaaaRdr
namespace Go.Proofs.Ytgnghalcihoaaaa
open Go.RowKit Me Va

theorem numOf_fits (l : List UInt8) (x : Int) (most : Nat) : (numOf l x most).1 < 18446744073709551616 := by
  unfold numOf
  split
  · exact (by decide : 0 < 18446744073709551616)
  · split
    · exact (by decide : 0 < 18446744073709551616)
    · split
      · exact (by decide : 0 < 18446744073709551616)
      · exact pars_fits (l := l) rfl
/-- The greatest number. -/
def top : Nat := 18446744073709551615
theorem top_int : (18446744073709551615 : Int) = (top : Int) := rfl
/-- The next bytes. -/
def bytesOf (l : List UInt8) (x k : Int) : List UInt8 × List UInt8 × Int :=
  if x ≠ 0 then ([], l, x) else if k < 0 then ([], [], 1) else if (l.length : Int) < k then ([], [], 2) else (l.take k.toNat, l.drop k.toNat, 0)
/-- Bytes are answered, in memory of their own; and the reader behind it. -/
def Gives (w : World) (g : Nat) (out l : List UInt8) (x : Int) (e : Ending) (w' : World) : Prop :=
  ∃ A n c, e = .returned (.slice A n c) ∧ out.length = n ∧ n ≤ c ∧ w'.ownsRow w.heap.size 5 1 (.slice A n c) n (cellsOf out) ∧ Rd w' w'.heap.size A out ∧ Rdr w' g l x ∧ w.grownBy w' (some g)
theorem gives_none {w w' : World} {g : Nat} {l : List UInt8} {x : Int} (hr : Rdr w' g l x) (hg : w.grownBy w' (some g)) : Gives w g [] l x (.returned (.slice none 0 0)) w' :=
  ⟨none, 0, 0, rfl, rfl, Nat.le_refl _, World.ownsRow_nil _ _ _ _, Rd.empty, hr, hg⟩
theorem gives_some {w w1 : World} {g m d n c : Nat} {X A : Option Addr} {out l : List UInt8} {x : Int} (hg : g < w.heap.size) (hl : out.length = m) (hd : m ≤ d) (ho : w1.ownsRow w.heap.size 5 1 (.slice X m d) m (cellsOf out)) (hb : Below w.heap.size w w1)
    (hs : Rdr (w1.setCell ⟨g, 0, none⟩ (.slice A n c)) g l x) : Gives w g out l x (.returned (.slice X m d)) (w1.setCell ⟨g, 0, none⟩ (.slice A n c)) := by
  have h1 : (w1.setCell ⟨g, 0, none⟩ (.slice A n c)).ownsRow w.heap.size 5 1 (.slice X m d) m (cellsOf out) := ownsRow_setCell_below ho (a := ⟨g, 0, none⟩) hg _
  have h2 : w.grownBy w1 (some g) := ⟨hb.os, hb.tape, hb.output, hb.size, fun k hk _ => hb.block k hk⟩
  exact ⟨X, m, d, rfl, hl, hd, h1, Rd.of_own h1, hs, h2.trans (grownBy_set w1 ⟨g, 0, none⟩ _)⟩
set_option maxRecDepth 100000 in
set_option maxHeartbeats 1000000 in
theorem bytes_any (g : Nat) (l : List UInt8) (x k : Int) (w : World) (h : Rdr w g l x) (hk63 : k ≤ 9223372036854775807) :
    Calls Try.prog 88 #[.pointer (some ⟨g, 0, none⟩), .int .i64 k] w (Gives w g (bytesOf l x k).1 (bytesOf l x k).2.1 (bytesOf l x k).2.2) := by
  have HH := Lib.hid h
  have hhere := h.here
  obtain ⟨A, n, c, h0, h1, f0, f1, hl, hc, hn, hr, hx⟩ := h
  have HL := Lib.hid hl
  have HR := Lib.hid hr
  have HX := Lib.hid hx
  have H0 := Lib.hid h0
  have F0 := Lib.hid f0
  clear hl hr hx
  by_cases hk : k < 0
  · have hp := Lib.hid (show bytesOf l x k = ([], (spoil l x 1).1, (spoil l x 1).2) by
      unfold bytesOf spoil
      by_cases e : x = 0
      · rw [if_neg (by rw [e]; simp), if_pos hk, if_neg (by rw [e]; decide)]
      · rw [if_pos e, if_pos (.inl e)])
    rw [hp.out]
    go_enter Try.func88, Try.ntmps88
    go_wp2_with fail
    refine (bad_any g l x 1 w HH.out).mono ?_
    rintro e w1 ⟨rfl, hr1, hg1⟩
    have HR1 := Lib.hid hr1
    have HG1 := Lib.hid hg1
    clear hr1 hg1
    go_wp2
    go_ret
    exact gives_none HR1.out HG1.out
  · by_cases hkn : (n : Int) < k
    · have hp := Lib.hid (show bytesOf l x k = ([], (spoil l x 2).1, (spoil l x 2).2) by
        unfold bytesOf spoil
        by_cases e : x = 0
        · rw [if_neg (by rw [e]; simp), if_neg hk, if_pos (by rw [HL.out]; exact hkn), if_neg (by rw [e]; decide)]
        · rw [if_pos e, if_pos (.inl e)])
      rw [hp.out]
      go_enter Try.func88, Try.ntmps88
      go_wp2_with fail
      refine (bad_any g l x 2 w HH.out).mono ?_
      rintro e w1 ⟨rfl, hr1, hg1⟩
      have HR1 := Lib.hid hr1
      have HG1 := Lib.hid hg1
      clear hr1 hg1
      go_wp2
      go_ret
      exact gives_none HR1.out HG1.out
    · obtain ⟨j, rfl⟩ := Int.eq_ofNat_of_zero_le (show 0 ≤ k by omega)
      have hjn : j ≤ n := by omega
      have hp := Lib.hid (show bytesOf l x (j : Int) = (l.take j, l.drop j, x) by
        unfold bytesOf
        by_cases e : x = 0
        · rw [if_neg (by rw [e]; simp), if_neg (by omega), if_neg (by rw [HL.out]; omega), e]; rfl
        · have hln := HX.out e
          rw [if_pos e, hln]; simp)
      rw [hp.out]
      have hdr := HR.out.drop (k := j) (cap := c) (by have := HL.out; omega)
      have hdl := Lib.hid (show (l.drop j).length = n - j by rw [List.length_drop, HL.out])
      have htl := Lib.hid (show (l.take j).length = j by rw [List.length_take, HL.out]; omega)
      have htr := Lib.hid ((HR.out.take j).more (Nat.le_of_lt hhere))
      have hnx := Lib.hid (show x ≠ 0 → l.drop j = [] from fun e => by rw [HX.out e]; simp)
      clear hk hkn
      by_cases hck : c = j
      · rw [if_pos hck] at hdr
        have HD := Lib.hid hdr
        clear hdr
        subst hck
        go_enter Try.func88, Try.ntmps88
        go_wp2_with fail
        refine (clone_any A c c (l.take c) w htl.out (by omega) htr.out).mono ?_
        intro e w1 hw
        obtain ⟨X, m, d, rfl, hl2, hc2, ho2, hr2, hb2⟩ := hw.open
        have h01 := (hb2.cell (p := ⟨g, 0, none⟩) hhere).trans H0.out
        have f01 := (hb2.frozen (p := ⟨g, 0, none⟩) hhere).trans F0.out
        have HB2 := Lib.hid hb2
        have HL2 := Lib.hid hl2
        have HO2 := Lib.hid ho2
        have HR2 := Lib.hid hr2
        clear hb2 hl2 ho2 hr2 hw
        have HRd := Lib.hid (HH.out.below (HB2.out.mono (by omega)))
        have HS := Lib.hid (HRd.out.setLeft (n := 0) (c := 0) (m := l.drop c) (A := A) (by rw [hdl.out]; omega) (Nat.le_refl _) (by omega) (HD.out.below (HB2.out.mono (Nat.le_of_lt hhere))) hnx.out)
        go_wp2
        go_ret
        exact gives_some hhere HL2.out hc2 HO2.out HB2.out HS.out
      · rw [if_neg hck] at hdr
        have HD := Lib.hid hdr
        clear hdr
        go_enter Try.func88, Try.ntmps88
        go_wp2_with fail
        refine (clone_any A j c (l.take j) w htl.out (by omega) htr.out).mono ?_
        intro e w1 hw
        obtain ⟨X, m, d, rfl, hl2, hc2, ho2, hr2, hb2⟩ := hw.open
        have h01 := (hb2.cell (p := ⟨g, 0, none⟩) hhere).trans H0.out
        have f01 := (hb2.frozen (p := ⟨g, 0, none⟩) hhere).trans F0.out
        have HB2 := Lib.hid hb2
        have HL2 := Lib.hid hl2
        have HO2 := Lib.hid ho2
        have HR2 := Lib.hid hr2
        clear hb2 hl2 ho2 hr2 hw
        have HRd := Lib.hid (HH.out.below (HB2.out.mono (by omega)))
        have HS := Lib.hid (HRd.out.setLeft (n := n - j) (c := c - j) (m := l.drop j) (A := A.map (·.add j)) hdl.out (by omega) (by omega) (HD.out.below (HB2.out.mono (Nat.le_of_lt hhere))) hnx.out)
        go_wp2
        go_ret
        exact gives_some hhere HL2.out hc2 HO2.out HB2.out HS.out
end Go.Proofs.Ytgnghalcihoaaaa
