/- The example of layer 14. -/
import Derived.Test.YtniffijjdehnaaaMmK
namespace Go.Proofs.Ytniffijjdehnaaa
open Go.RowKit Me Tx Ed Mg Va

theorem example_rows : keysG [] none [keyB ⟨1, 2, 3⟩, keyB ⟨1, 2, 4⟩] = ([⟨1, [⟨2, 7⟩]⟩], 0) := by
  have h := keysG_edges [⟨1, 2, 3⟩, ⟨1, 2, 4⟩] [] none (fun x hx => by
    simp at hx
    rcases hx with rfl | rfl <;> exact ⟨by decide, by decide, by decide⟩)
  rw [show [keyB ⟨1, 2, 3⟩, keyB ⟨1, 2, 4⟩] = [(⟨1, 2, 3⟩ : EdD), ⟨1, 2, 4⟩].map keyB from rfl, h]
  decide
set_option maxRecDepth 100000 in
set_option maxHeartbeats 2000000 in
theorem awake14_any (w : World) : Calls Try.prog 8 #[] w fun e w' => e = .returned (.bool true) ∧ Below w.heap.size w w' := by
  have HK1 := Lib.hid (fun W : World => mkey_any ⟨1, 2, 3⟩ ⟨by decide, by decide, by decide⟩ W)
  have HK2 := Lib.hid (fun W : World => mkey_any ⟨1, 2, 4⟩ ⟨by decide, by decide, by decide⟩ W)
  go_enter Try.func8, Try.ntmps8
  go_wp2_with fail
  refine (HK1.out w).mono ?_
  rintro e w1 h1
  obtain ⟨A1, n1, k1, rfl, hl1, hn1, ho1, hr1, hb1⟩ := h1.open
  rw [keyB_length] at hl1
  subst hl1
  have HR1 := Lib.hid hr1
  have HB1 := Lib.hid hb1
  have HN1 := Lib.hid (And.intro hn1 (own_bounds ho1))
  clear h1 hn1 ho1 hr1 hb1
  go_wp2_with fail
  refine (HK2.out w1).mono ?_
  rintro e w2 h2
  obtain ⟨A2, n2, k2, rfl, hl2, hn2, ho2, hr2, hb2⟩ := h2.open
  rw [keyB_length] at hl2
  subst hl2
  obtain ⟨w3, hw3⟩ : ∃ w3, w3 = w2.alloc (.cells #[.slice A1 12 k1, .slice A2 12 k2] 25) := ⟨_, rfl⟩
  obtain ⟨g, hg⟩ : ∃ g, g = w2.heap.size := ⟨_, rfl⟩
  have hb3 : Below w2.heap.size w2 w3 := by rw [hw3]; exact (Below.refl _ _).alloc (Nat.le_refl _) _
  have hcs : Cs w3 w3.heap.size (some ⟨g, 0, none⟩) [.slice A1 12 k1, .slice A2 12 k2] := by
    rw [hw3, hg]
    have := Cs.lit w2 #[.slice A1 12 k1, .slice A2 12 k2] 25
    rwa [← World.size_alloc w2 (.cells #[.slice A1 12 k1, .slice A2 12 k2] 25)] at this
  have hp1 : PcAt w3 w3.heap.size (.slice A1 12 k1, keyB ⟨1, 2, 3⟩) := ⟨_, _, _, rfl, rfl, HN1.out.2.1, HN1.out.2.2, ((HR1.out.below hb2).more hb2.size |>.below hb3).more hb3.size⟩
  have hp2 : PcAt w3 w3.heap.size (.slice A2 12 k2, keyB ⟨1, 2, 4⟩) := ⟨_, _, _, rfl, rfl, (own_bounds ho2).1, (own_bounds ho2).2, (hr2.below hb3).more hb3.size⟩
  have HRO := Lib.hid (mrows_any (some ⟨g, 0, none⟩) 2 2 [(.slice A1 12 k1, keyB ⟨1, 2, 3⟩), (.slice A2 12 k2, keyB ⟨1, 2, 4⟩)] w3 rfl (by omega) ⟨hcs, fun p hp => by
    simp at hp
    rcases hp with rfl | rfl
    · exact hp1
    · exact hp2⟩)
  have HB3 := Lib.hid ((HB1.out.trans (hb2.mono HB1.out.size)).trans (hb3.mono (HB1.out.trans (hb2.mono HB1.out.size)).size))
  have HW3 := Lib.hid hw3
  have HGE := Lib.hid hg
  clear h2 hn2 ho2 hr2 hb2 hb3 hcs hp1 hp2 hw3 hg
  go_wp2_with fail
  rw [← HW3.out, ← HGE.out]
  refine HRO.out.mono ?_
  rintro e w4 ⟨A, n, c, rfl, hl, hnc, hc63, hat, hb4⟩
  have hq : keysG [] none ([((.slice A1 12 k1 : Value), keyB ⟨1, 2, 3⟩), (.slice A2 12 k2, keyB ⟨1, 2, 4⟩)].map (·.2)) = ([⟨1, [⟨2, 7⟩]⟩], 0) := example_rows
  rw [hq] at hl hat
  rw [hq]
  have hn : n = 1 := hl.symm
  subst hn
  obtain ⟨a, p, r, rfl, hr, hab, h0, h1, hrw⟩ := hat.at (k := 0) (by decide)
  injection hr with hr
  subst hr
  rw [Nat.zero_mul, adr_zero] at h0 h1
  obtain ⟨⟨p0, PA, pn, pc⟩, hp⟩ : ∃ q, q = p := ⟨_, rfl⟩
  subst hp
  have hlen := hrw.len
  have hpn : pn = 1 := hlen.symm
  subst hpn
  obtain ⟨a2, q, e2, hq2, hab2, g0, g1, -, -⟩ := hrw.arcs.at (k := 0) (by decide)
  injection hq2 with hq2
  subst hq2
  replace e2 : PA = some a2 := e2
  subst e2
  rw [Nat.zero_mul, adr_zero] at g0 g1
  have HB4 := Lib.hid (HB3.out.trans (hb4.mono HB3.out.size))
  clear hl hat hq hnc hc63 hab hrw hab2 hb4 hlen
  dsimp only at h0 h1 g0 g1
  go_wp2
  go_ret
  exact ⟨rfl, HB4.out⟩
end Go.Proofs.Ytniffijjdehnaaa
