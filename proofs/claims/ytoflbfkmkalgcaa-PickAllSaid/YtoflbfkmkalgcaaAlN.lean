/- The beginning of a table: newFilling. -/
import Derived.Test.YtoflbfkmkalgcaaAlF
import Derived.Deep.DeepCutAuto
import Derived.RegionTactic
namespace Go.Proofs.Ytoflbfkmkalgcaa
open Go.RowKit Me Va Al

theorem u64_info : (Try.prog.info? 24).map (fun i => (i.zero, i.size, i.bytes)) = some (some (.int .u64 0), 1, 8) := by kernel_rfl
theorem cel_info : (Try.prog.info? 46).map (fun i => (i.zero, i.size, i.bytes)) = some (some (.agg #[.int .u64 0, .int .u32 0]), 2, 16) := by kernel_rfl
/-- The first rests of neighbours. -/
def restsOf (l : List ArcD) : List Nat := l.map fun p => l.length * p.weight
theorem restsOf_length (l : List ArcD) : (restsOf l).length = l.length := by simp [restsOf]
theorem restsOf_get {l : List ArcD} {k : Nat} {p : ArcD} (h : l[k]? = some p) : (restsOf l)[k]? = some (l.length * p.weight) := by unfold restsOf; rw [List.getElem?_map, h]; rfl
theorem restsOf_gt {l : List ArcD} {k : Nat} {p : ArcD} (h : l[k]? = some p) : gt (restsOf l) k = l.length * p.weight := by unfold gt; rw [List.getD_eq_getElem?_getD, restsOf_get h]; rfl
theorem sum_mul (d : Nat) : ∀ l : List ArcD, (l.map fun p => d * p.weight).sum = d * sumOf l
  | [] => rfl
  | p :: l => by rw [List.map_cons, List.sum_cons, sum_mul d l, sumOf, Nat.mul_add]
theorem restsOf_sum (l : List ArcD) : (restsOf l).sum = sumOf l * l.length := by unfold restsOf; rw [sum_mul, Nat.mul_comm]
theorem beg_tab {w k : Nat} {I : List Nat} (h : k < I.length) : (beg w I).tab[k]? = some ⟨w, k⟩ := by simp [beg, h]
theorem beg_len (w : Nat) (I : List Nat) : (beg w I).tab.length = I.length := by simp [beg]
/-- Two rows lie apart. -/
def Apt (u v : Value) : Prop := ∀ b, u.ownBlock = some b → v.ownBlock ≠ some b
/-- What stands in the midst of a round. -/
def NfMid (w : World) (g k1 k2 W : Nat) (I : List Nat) (A1 A2 : Option Addr) (c1 c2 : Nat) (wr : World) : Prop :=
  Blk wr g [.int .u64 (W : Int), .slice A1 k1 c1, .int .i64 0, .slice A2 k2 c2] ∧ wr.ownsRow (g + 1) 24 1 (.slice A1 k1 c1) k1 (uCells (I.take k1)) ∧ wr.ownsRow (g + 1) 46 2 (.slice A2 k2 c2) k2 (cCells ((beg W I).tab.take k2)) ∧
    Apt (.slice A1 k1 c1) (.slice A2 k2 c2) ∧ Below w.heap.size w wr
/-- What stands behind k rounds. -/
def NfRel (w : World) (g n k W : Nat) (I : List Nat) (A1 A2 : Option Addr) (c1 c2 : Nat) (wr : World) : Prop := NfMid w g k k W I A1 A2 c1 c2 wr
/-- A table is begun. -/
def NfPost (w : World) (d W : Nat) (I : List Nat) (e : Ending) (w' : World) : Prop :=
  ∃ g aR aS cR cS, e = .returned (.pointer (some ⟨g, 0, none⟩)) ∧ FilAt w' w.heap.size g aR aS d cR cS W 0 (beg W I) ∧ Below w.heap.size w w'
theorem nf_end {w wr : World} {g n W : Nat} {I : List Nat} {A1 A2 : Option Addr} {c1 c2 : Nat} (hn : 0 < n) (hI : I.length = n) (hg : w.heap.size ≤ g) (h : NfRel w g n n W I A1 A2 c1 c2 wr) : NfPost w n W I (.returned (.pointer (some ⟨g, 0, none⟩))) wr := by
  obtain ⟨h1, h2, h3, h4, h5⟩ := h
  rw [List.take_of_length_le (by omega)] at h2
  rw [List.take_of_length_le (by rw [beg_len]; omega)] at h3
  obtain ⟨gR, e1, b1, -, -, -, -⟩ := own_putS (v := undef) h2 (i := 0) (by omega)
  obtain ⟨gS, e2, b2, -, -, -, -⟩ := own_putS (v := undef) h3 (i := 0) (by omega)
  subst e1 e2
  refine ⟨g, _, _, c1, c2, rfl, ⟨h1, ⟨own_more h2 (by omega)⟩, ⟨own_more h3 (by omega)⟩, hg, by show gR ≠ g; omega, by show gS ≠ g; omega, fun e => ?_⟩, h5⟩
  exact h4 gR rfl (by show some gS = some gR; rw [show gS = gR from e.symm])
theorem one_u64 {w : World} {x : Int} {T : TypeId} : ∀ (j : Nat) (v : Value), ([.int .u64 x] : List Value)[j]? = some v → (w.alloc (.cells #[.int .u64 x] T)).cell? ((⟨w.heap.size, 0, none⟩ : Addr).add j) = some v := by
  intro j v hj
  obtain ⟨a, e, -, hc⟩ := Cs.lit w #[.int .u64 x] T (by simp)
  injection e with e
  subst e
  exact hc j v hj
theorem two_cel {w : World} {x y : Int} {T : TypeId} : ∀ (j : Nat) (v : Value), ([.int .u64 x, .int .u32 y] : List Value)[j]? = some v → (w.alloc (.cells #[.int .u64 x, .int .u32 y] T)).cell? ((⟨w.heap.size, 0, none⟩ : Addr).add j) = some v := by
  intro j v hj
  obtain ⟨a, e, -, hc⟩ := Cs.lit w #[.int .u64 x, .int .u32 y] T (by simp)
  injection e with e
  subst e
  exact hc j v hj
theorem apt_kept {u v : Value} (h : Apt u v) : v.ownBlock = none ∨ v.ownBlock ≠ u.ownBlock := by
  cases hv : v.ownBlock with
  | none => exact .inl rfl
  | some b => exact .inr fun e => h b e.symm hv
set_option maxRecDepth 100000 in
set_option maxHeartbeats 4000000 in
theorem newFilling_any (L : Option Addr) (n c : Nat) (l : List ArcD) (w : World) (hl : l.length = n) (hn0 : 0 < n) (hn : n ≤ 1000000) (hr : Arcs w w.heap.size L l) :
    Calls Try.prog 30 #[.slice L n c] w (NfPost w n (sumOf l) (restsOf l)) := by
  obtain ⟨i0, hi0, hz0, hz1, hz2⟩ := info_parts u64_info
  obtain ⟨i1, hi1, hy0, hy1, hy2⟩ := info_parts cel_info
  have HSUM := Lib.hid (sum_any L n c l w hl (by omega) hr)
  obtain ⟨I, hI⟩ : ∃ I, I = restsOf l := ⟨_, rfl⟩
  obtain ⟨S, hS⟩ : ∃ S, S = sumOf l := ⟨_, rfl⟩
  have hIl : I.length = n := by rw [hI, restsOf_length, hl]
  have HIL := Lib.hid hIl
  have HSm := Lib.hid (show S < 18446744073709551616 by have := sum_fits (l := l) (by omega) hr.2 l.length; rw [List.take_length] at this; omega)
  have HG := Lib.hid (show ∀ (k : Nat) (p : ArcD), l[k]? = some p → I[k]? = some (n * p.weight) from fun k p h => by rw [hI, ← hl]; exact restsOf_get h)
  have HL := Lib.hid hl
  have HR := Lib.hid hr
  rw [← hS] at HSUM
  rw [← hI, ← hS]
  clear hl hr hI hIl hS
  go_enter Try.func30, Try.ntmps30
  go_wp2_with fail
  refine HSUM.out.mono ?_
  rintro e w1 ⟨rfl, hb1⟩
  obtain ⟨g, hg⟩ : ∃ g, g = w1.heap.size := ⟨_, rfl⟩
  obtain ⟨w2, hw2⟩ : ∃ w2, w2 = w1.alloc (.cells #[.int .u64 (S : Int), .slice none 0 0, .int .i64 0, .slice none 0 0] 60) := ⟨_, rfl⟩
  have H0 := Lib.hid (show NfRel w g n 0 S I none none 0 0 w2 from by
    refine ⟨by rw [hw2, hg]; exact Blk.new w1 [.int .u64 (S : Int), .slice none 0 0, .int .i64 0, .slice none 0 0] _, World.ownsRow_nil _ _ _ _, World.ownsRow_nil _ _ _ _, (fun b hb => by cases hb), ?_⟩
    rw [hw2]; exact hb1.alloc hb1.size _)
  have HGW := Lib.hid (show w.heap.size ≤ g by rw [hg]; exact hb1.size)
  have HW2 := Lib.hid hw2
  have HGG := Lib.hid hg
  clear hb1 hw2 hg
  go_wp2
  rw [← HW2.out, ← HGG.out]
  go_loopw [12] (fun iv wr => ∃ (k : Nat) (A1 A2 : Option Addr) (c1 c2 : Nat), k ≤ n ∧ iv = .int .i64 (k : Int) ∧ Hid (NfRel w g n k S I A1 A2 c1 c2 wr)) (fun iv _ => n - (intOf iv).toNat)
  case atStart => exact ⟨0, none, none, 0, 0, Nat.zero_le _, rfl, H0⟩
  case round =>
    clear H0 HW2 HGG
    obtain ⟨k, A1, A2, c1, c2, hk, rfl, HREL⟩ := hrel
    by_cases hlt : k < n
    · obtain ⟨hb, ho1, ho2, hap, hbw⟩ := HREL.out
      have hlt' : k < l.length := by rw [HL.out]; exact hlt
      obtain ⟨a, p, rfl, hp, ha, h0, h1, h2, h3⟩ := (HR.out.below hbw).at hlt'
      obtain ⟨x, hx⟩ : ∃ x, x = n * p.weight := ⟨_, rfl⟩
      have hxi : (n : Int) * (p.weight : Int) = (x : Int) := by rw [hx]; exact (Int.natCast_mul _ _).symm
      have hxm : x < 18446744073709551616 := by
        have : n * p.weight ≤ 1000000 * 4294967295 := Nat.mul_le_mul hn (by omega)
        omega
      have hwn := hbw.size
      have HXI := Lib.hid (show I.take (k + 1) = I.take k ++ [x] from by rw [List.take_add_one, HG.out k p hp, hx]; rfl)
      have HTI := Lib.hid (show (beg S I).tab.take (k + 1) = (beg S I).tab.take k ++ [⟨S, k⟩] from by rw [List.take_add_one, beg_tab (by rw [HIL.out]; exact hlt)]; rfl)
      have hgl := hb.lt
      obtain ⟨wB, hwB⟩ : ∃ wB, wB = wr.alloc (.cells #[.int .u32 (p.to : Int), .int .u32 (p.weight : Int)] 44) := ⟨_, rfl⟩
      have hbB : Below wr.heap.size wr wB := by rw [hwB]; exact (Below.refl _ _).alloc (Nat.le_refl _) _
      have hH : wB.heap.size = wr.heap.size + 1 := by rw [hwB]; simp
      obtain ⟨H, hHH⟩ : ∃ H, H = wr.heap.size := ⟨_, rfl⟩
      have ha0 : wB.cell? ⟨H, 1, none⟩ = some (.int .u32 (p.weight : Int)) := by
        rw [hwB, hHH]; exact (Blk.new wr [.int .u32 (p.to : Int), .int .u32 (p.weight : Int)] _).cell (i := 1) rfl
      have HBB := Lib.hid hbB
      have HSZ := Lib.hid hH
      have HWB := Lib.hid hwB
      have HHH := Lib.hid hHH
      have HB := Lib.hid (hb.past hbB)
      have HO1 := Lib.hid (own_below' ho1 hbB)
      have HO2 := Lib.hid (own_below' ho2 hbB)
      have HAP := Lib.hid hap
      have HBW := Lib.hid (hbw.trans (hbB.mono hbw.size))
      clear hb ho1 ho2 hap hbw hbB hwB hH hHH hp hlt' hx HREL
      obtain ⟨b0, b1, b2, b3⟩ := HB.out.four
      have f1 := HB.out.frozen 1
      have hlt2 : (k : Int) < (n : Int) := by omega
      have v1 : IntKind.u64.wrap (n : Int) = (n : Int) := IntWalk.u64_in _ (by omega)
      have v2 : IntKind.u64.wrap (p.weight : Int) = (p.weight : Int) := IntWalk.u64_in _ (by omega)
      have v3 : IntKind.u64.wrap (x : Int) = (x : Int) := IntWalk.u64_in _ (by omega)
      have v4 : IntKind.u32.wrap (k : Int) = (k : Int) := IntWalk.u32_in _ (by omega)
      have HMX := Lib.hid (show k + 1 ≤ maxLen ∧ (k + 1) * 16 ≤ 140737488355328 ∧ (k + 1) * 8 ≤ 140737488355328 by unfold maxLen; omega)
      obtain ⟨wa, hwa⟩ : ∃ wa, wa = (wB.alloc (.cells #[.int .u64 (x : Int)] 24)).drew := ⟨_, rfl⟩
      have hb1a : Below wB.heap.size wB wa := by rw [hwa]; exact ((Below.refl _ _).alloc (Nat.le_refl _) _).drew
      have HBA := Lib.hid hb1a
      have HLIT := Lib.hid (show ∀ (j : Nat) (u : Value), ([.int .u64 (x : Int)] : List Value)[j]? = some u → wa.cell? ((⟨wB.heap.size, 0, none⟩ : Addr).add j) = some u from fun j u hj => by rw [hwa]; exact one_u64 j u hj)
      have HWA := Lib.hid hwa
      have HCE := Lib.hid (show ∀ u ∈ ([.int .u64 (x : Int)] : List Value), u.oneCell' = true from fun u hu => by rw [List.mem_singleton.1 hu]; rfl)
      have OWA := Lib.hid (own_below' HO1.out hb1a)
      have HLO := Lib.hid (show g + 1 ≤ wa.heap.size by have := HB.out.lt; have := hb1a.size; omega)
      have hgl2 : g < wB.heap.size := HB.out.lt
      have hhl2 : H < wB.heap.size := by have := HSZ.out; have := HHH.out; omega
      clear hwa hb1a hgl
      have hgw := HGW.out
      go_upto_region 5 with fail
      rw [← HWB.out, ← HHH.out]
      go_cut [] (fun wx => ∃ (A7 : Option Addr) (d7 : Nat), Hid (NfMid w g (k + 1) k S I A7 A2 d7 c2 wx))
      case first =>
        go_wp2_with fail
        go_region_law (go_loud (rw [← HWA.out]; refine step_append_both (w := wa) rfl (.tmp 21) (.tmp 29) 41 rfl (g + 1) 24 i0 _ 1 8 Try.underlying41 hi0 hz0 hz1 hz2 rfl (by decide) A1 k c1 _ (by simp [Act.eval]) OWA.out ⟨wB.heap.size, 0, none⟩ 1 1 [.int .u64 (x : Int)] (by simp [Act.eval]) rfl HLIT.out HCE.out (by decide) HMX.out.1 HMX.out.2.2 HLO.out ?_)
                       intro v6 w6 ho6 hg6 hn6 hfit6
                       obtain ⟨A7, d7, rfl, hnd7⟩ := own_slice' ho6
                       have hne6 : (Value.slice A1 k c1).ownBlock ≠ some g := fun e => by have := (OWA.out.lt g e).1; omega
                       have hb6 := (HB.out.past HBA.out).grown hg6 hne6
                       have e7 := hb6.cell (i := 1) rfl
                       have y7 := hb6.frozen 1
                       have HO6 := Lib.hid (And.intro ho6 (And.intro hg6 (And.intro hn6 hb6)))
                       clear ho6 hg6 hn6 hfit6 hb6 hne6)
        all_goals
          go_wp2_with fail
          go_meet
          obtain ⟨ho6, hg6, hn6, hb6⟩ := HO6.out
          refine ⟨A7, d7, Lib.hid ⟨hb6.set 1 _, ?_, ?_, fun b hb e => ?_, ?_⟩⟩
          · rw [HXI.out, uCells_append]
            exact ownsRow_setCell_below ho6 (a := ⟨g, 1, none⟩) (show g < g + 1 by omega) _
          · exact ownsRow_setCell_below ((own_below' HO2.out HBA.out).kept hg6 (apt_kept HAP.out)) (a := ⟨g, 1, none⟩) (show g < g + 1 by omega) _
          · rcases hn6 with h | h
            · exact HAP.out b (h.symm.trans hb) e
            · rw [h] at hb
              injection hb with hb
              have := (HO2.out.lt b e).2
              have := HBA.out.size
              omega
          · have hbw : Below w.heap.size w wa := HBW.out.trans (HBA.out.mono HBW.out.size)
            exact (hbw.grown hg6 hbw.size (fun j e => by have := (OWA.out.lt j e).1; omega)).setCell (p := ⟨g, 1, none⟩) hgw _
      case rest =>
        clear HWA HLIT OWA HLO HBA HCE HB HO1 HO2 HAP HBW HBB hgl2 hhl2 b0 b1 b2 b3 f1 ha0 HXI h0 h1
        obtain ⟨A7, d7, HM⟩ := hcut
        obtain ⟨hb, ho1, ho2, hap, hbw⟩ := HM.out
        have HB := Lib.hid hb
        have HO1 := Lib.hid ho1
        have HO2 := Lib.hid ho2
        have HAP := Lib.hid hap
        have HBW := Lib.hid hbw
        clear hb ho1 ho2 hap hbw HM
        obtain ⟨b0, b1, b2, b3⟩ := HB.out.four
        have f3 := HB.out.frozen 3
        obtain ⟨wa, hwa⟩ : ∃ wa, wa = (wc.alloc (.cells #[.int .u64 (S : Int), .int .u32 (k : Int)] 46)).drew := ⟨_, rfl⟩
        have hb1a : Below wc.heap.size wc wa := by rw [hwa]; exact ((Below.refl _ _).alloc (Nat.le_refl _) _).drew
        have HBA := Lib.hid hb1a
        have HLIT := Lib.hid (show ∀ (j : Nat) (u : Value), ([.int .u64 (S : Int), .int .u32 (k : Int)] : List Value)[j]? = some u → wa.cell? ((⟨wc.heap.size, 0, none⟩ : Addr).add j) = some u from fun j u hj => by rw [hwa]; exact two_cel j u hj)
        have HWA := Lib.hid hwa
        have HCE := Lib.hid (show ∀ u ∈ ([.int .u64 (S : Int), .int .u32 (k : Int)] : List Value), u.oneCell' = true from fun u hu => by simp at hu; rcases hu with rfl | rfl <;> rfl)
        have OWA := Lib.hid (own_below' HO2.out hb1a)
        have HLO := Lib.hid (show g + 1 ≤ wa.heap.size by have := HB.out.lt; have := hb1a.size; omega)
        have hgl2 : g < wc.heap.size := HB.out.lt
        clear hwa hb1a
        go_wp2_with fail
        go_region_law (go_loud (rw [← HWA.out]; refine step_append_both (w := wa) rfl (.tmp 37) (.tmp 45) 23 rfl (g + 1) 46 i1 _ 2 16 Try.underlying23 hi1 hy0 hy1 hy2 rfl (by decide) A2 k c2 _ (by simp [Act.eval]) OWA.out ⟨wc.heap.size, 0, none⟩ 1 1 [.int .u64 (S : Int), .int .u32 (k : Int)] (by simp [Act.eval]) rfl HLIT.out HCE.out (by decide) HMX.out.1 HMX.out.2.1 HLO.out ?_)
                       intro v6 w6 ho6 hg6 hn6 hfit6
                       obtain ⟨A8, d8, rfl, hnd8⟩ := own_slice' ho6
                       have hne6 : (Value.slice A2 k c2).ownBlock ≠ some g := fun e => by have := (OWA.out.lt g e).1; omega
                       have hb6 := (HB.out.past HBA.out).grown hg6 hne6
                       have e7 := hb6.cell (i := 3) rfl
                       have y7 := hb6.frozen 3
                       have HO6 := Lib.hid (And.intro ho6 (And.intro hg6 (And.intro hn6 hb6)))
                       clear ho6 hg6 hn6 hfit6 hb6 hne6)
        all_goals
          have HM := Lib.hid (show NfMid w g (k + 1) (k + 1) S I A7 A8 d7 d8 (w6.setCell ⟨g, 3, none⟩ (.slice A8 (k + 1) d8)) from by
            obtain ⟨ho6, hg6, hn6, hb6⟩ := HO6.out
            refine ⟨hb6.set 3 _, ?_, ?_, fun b hb e => ?_, ?_⟩
            · exact ownsRow_setCell_below ((own_below' HO1.out HBA.out).kept hg6 (apt_kept fun b hb e => HAP.out b e hb)) (a := ⟨g, 3, none⟩) (show g < g + 1 by omega) _
            · rw [HTI.out, cCells_append]
              exact ownsRow_setCell_below ho6 (a := ⟨g, 3, none⟩) (show g < g + 1 by omega) _
            · rcases hn6 with h | h
              · exact HAP.out b hb (h.symm.trans e)
              · rw [h] at e
                injection e with e
                have := (HO1.out.lt b hb).2
                have := HBA.out.size
                omega
            · have hbw : Below w.heap.size w wa := HBW.out.trans (HBA.out.mono HBW.out.size)
              exact (hbw.grown hg6 hbw.size (fun j e => by have := (OWA.out.lt j e).1; omega)).setCell (p := ⟨g, 3, none⟩) hgw _)
          clear HO6
          go_wp2
          go_roundw
          case rel => exact ⟨k + 1, A7, A8, d7, d8, by omega, by go_num, HM⟩
          case measure => simp [intOf]; omega
    · have e : k = n := by omega
      subst e
      have FIN := Lib.hid (nf_end (by omega) HIL.out HGW.out HREL.out)
      go_wp2
      go_ret
      exact FIN.out
end Go.Proofs.Ytoflbfkmkalgcaa
