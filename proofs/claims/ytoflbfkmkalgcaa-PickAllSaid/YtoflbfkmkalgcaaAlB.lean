/- The table of neighbours: Build. -/
import Derived.Test.YtoflbfkmkalgcaaAlN
import Derived.WalkMore
namespace Go.Proofs.Ytoflbfkmkalgcaa
open Go.RowKit Me Va Al

/-- Neighbours, one at least. -/
def good (l : List ArcD) : Bool := decide (0 < l.length) && may l
theorem good_may {l : List ArcD} (h : good l = true) : 0 < l.length ∧ may l = true := by unfold good at h; rw [Bool.and_eq_true] at h; exact ⟨of_decide_eq_true h.1, h.2⟩
theorem may_sum {l : List ArcD} (h : may l = true) : sumOf l ≤ 2147483647 := by
  unfold may at h
  rw [Bool.and_eq_true] at h
  exact of_decide_eq_true h.2
/-- The table of neighbours. -/
def Tabl (l : List ArcD) (T : List CelD) : Prop := ∃ s, Rch (sumOf l) (beg (sumOf l) (restsOf l)) s ∧ Done (sumOf l) s ∧ s.tab = T
theorem Tabl.one {l : List ArcD} {T T' : List CelD} (h : Tabl l T) (k : Tabl l T') : T = T' := by
  obtain ⟨s, h1, h2, rfl⟩ := h
  obtain ⟨t, k1, k2, rfl⟩ := k
  rw [h1.one h2 k1 k2]
theorem beg_ok (l : List ArcD) : Inv (sumOf l) l.length (restsOf l) (beg (sumOf l) (restsOf l)) := beg_inv (restsOf_length l) (restsOf_sum l)
theorem Tabl.len {l : List ArcD} {T : List CelD} (h : Tabl l T) : T.length = l.length := by
  obtain ⟨s, h1, -, rfl⟩ := h
  exact ((beg_ok l).rch h1).lent
theorem Tabl.ok {l : List ArcD} {T : List CelD} (h : Tabl l T) : ∀ c ∈ T, c.cut ≤ sumOf l ∧ c.oth < l.length := by
  obtain ⟨s, h1, -, rfl⟩ := h
  exact ((beg_ok l).rch h1).ok
theorem Tabl.cnt {l : List ArcD} {T : List CelD} (h : Tabl l T) {k : Nat} {p : ArcD} (hp : l[k]? = some p) : Al.cnt (sumOf l) k T = l.length * p.weight := by
  obtain ⟨s, h1, h2, rfl⟩ := h
  rw [((beg_ok l).rch h1).right h2 k (List.getElem?_eq_some_iff.1 hp).1, restsOf_gt hp]
theorem Tabl.cels {w : World} {base n c : Nat} {a : Addr} {l : List ArcD} {T : List CelD} (h : Tabl l T) (hn : l.length ≤ 4294967296) (hs : sumOf l < 18446744073709551616) (ht : TAt w base a n c T) : Cels w w.heap.size (some a) T :=
  ⟨Cs.of_own ht.own, fun x hx => by have := h.ok x hx; omega⟩
set_option maxRecDepth 100000 in
theorem amay_any (L : Option Addr) (n c : Nat) (l : List ArcD) (w : World) (hl : l.length = n) (hn : n ≤ 4294967296) (hr : Arcs w w.heap.size L l) :
    Calls Try.prog 29 #[.slice L n c] w fun e w' => e = .returned (.bool (good l)) ∧ Below w.heap.size w w' := by
  have HM := Lib.hid (may_any L n c l w hl hn hr)
  obtain ⟨m, hm⟩ : ∃ m, m = may l := ⟨_, rfl⟩
  have hg : good l = (decide (0 < n) && m) := by unfold good; rw [hl, hm]
  rw [← hm] at HM
  have HG := Lib.hid hg
  clear hl hr hm hg
  by_cases h0 : 0 < n
  · have h1 : (0 : Int) < (n : Int) := by omega
    go_enter Try.func29, Try.ntmps29
    go_wp2_with fail
    refine HM.out.mono ?_
    rintro e w1 ⟨rfl, hb1⟩
    go_wp2
    go_ret
    exact ⟨by rw [HG.out]; simp [h0], hb1⟩
  · have h1 : ¬ (0 : Int) < (n : Int) := by omega
    go_enter Try.func29, Try.ntmps29
    go_wp2
    go_ret
    exact ⟨by rw [HG.out]; simp [h0], Below.refl _ _⟩
set_option maxRecDepth 100000 in
theorem build_no (L : Option Addr) (n c : Nat) (l : List ArcD) (w : World) (hl : l.length = n) (hn : n ≤ 4294967296) (hr : Arcs w w.heap.size L l) (hg : good l = false) :
    Calls Try.prog 14 #[.slice L n c] w fun e w' => e = .returned (.tuple #[.slice none 0 0, .int .i64 3]) ∧ Below w.heap.size w w' := by
  have HM := Lib.hid (amay_any L n c l w hl hn hr)
  rw [hg] at HM
  clear hg hr hl
  go_enter Try.func14, Try.ntmps14
  go_wp2
  go_step3
  go_wp2_with fail
  refine HM.out.mono ?_
  rintro e w1 ⟨rfl, hb1⟩
  go_wp2
  rw [Exit.noGoto_ret]
  go_ret2
  exact ⟨rfl, hb1⟩
/-- How many rests in memory aren't settled. -/
def looseAt (wr : World) (g n S : Nat) : Nat := match wr.cell? ⟨g, 1, none⟩ with
  | some (.slice (some a) _ _) => ((List.range n).map fun i => match wr.cell? (a.add i) with
    | some (.int _ z) => z.toNat
    | _ => 0).countP (fun x => x != S)
  | _ => 0
theorem looseAt_of {wr : World} {lo g n cR cS S ab : Nat} {aR aS : Addr} {s : StD} (h : FilAt wr lo g aR aS n cR cS S ab s) : looseAt wr g n S = loose S s.rest := by
  unfold looseAt
  rw [h.blk.four.2.1]
  unfold loose
  show List.countP _ ((List.range n).map fun i => match wr.cell? (aR.add i) with
    | some (.int _ z) => z.toNat
    | _ => 0) = _
  congr 1
  refine List.ext_getElem? fun i => ?_
  rw [List.getElem?_map]
  by_cases hi : i < n
  · rw [List.getElem?_range hi, gt_get (by rw [h.rest.len]; exact hi)]
    simp [(h.rest.get hi).1]
  · rw [List.getElem?_eq_none (by rw [List.length_range]; omega), List.getElem?_eq_none (by rw [h.rest.len]; omega)]
    rfl
/-- What stands between the steps. -/
structure Bld (w wr : World) (g : Nat) (aR aS : Addr) (n cR cS S ab : Nat) (I : List Nat) (s : StD) : Prop where
  rch : Rch S (beg S I) s
  fil : FilAt wr w.heap.size g aR aS n cR cS S ab s
  ab : ∀ k, k < ab → gt s.rest k ≤ S
  below : Below w.heap.size w wr
theorem Bld.drew {w wr : World} {g : Nat} {aR aS : Addr} {n cR cS S ab : Nat} {I : List Nat} {s : StD} (h : Bld w wr g aR aS n cR cS S ab I s) : Bld w wr.drew g aR aS n cR cS S ab I s := ⟨h.rch, h.fil.past (Below.refl _ _).drew, h.ab, h.below.drew⟩
/-- The table is answered, in memory of its own. -/
def BuildPost (w : World) (n : Nat) (l : List ArcD) (e : Ending) (w' : World) : Prop :=
  ∃ a c T, e = .returned (.tuple #[.slice (some a) n c, .int .i64 0]) ∧ TAt w' w.heap.size a n c T ∧ Tabl l T ∧ Below w.heap.size w w'
set_option maxRecDepth 100000 in
set_option maxHeartbeats 4000000 in
theorem build_yes (L : Option Addr) (n c : Nat) (l : List ArcD) (w : World) (hl : l.length = n) (hn : n ≤ 1000000) (hr : Arcs w w.heap.size L l) (hg : good l = true) :
    Calls Try.prog 14 #[.slice L n c] w (BuildPost w n l) := by
  have HM := Lib.hid (amay_any L n c l w hl (by omega) hr)
  rw [hg] at HM
  have hn0 : 0 < n := by rw [← hl]; exact (good_may hg).1
  have HNF := Lib.hid (show ∀ W, Below w.heap.size w W → Calls Try.prog 30 #[.slice L n c] W (NfPost W n (sumOf l) (restsOf l)) from fun W hW => newFilling_any L n c l W hl hn0 hn ((hr.below hW).more hW.size))
  obtain ⟨S, hS⟩ : ∃ S, S = sumOf l := ⟨_, rfl⟩
  obtain ⟨I, hI⟩ : ∃ I, I = restsOf l := ⟨_, rfl⟩
  have hS31 : S ≤ 2147483647 := by rw [hS]; exact may_sum (good_may hg).2
  have HINV := Lib.hid (show Inv S n I (beg S I) from by rw [hS, hI, ← hl]; exact beg_ok l)
  have HTB := Lib.hid (show ∀ s, Rch S (beg S I) s → Done S s → Tabl l s.tab from fun s h1 h2 => ⟨s, by rw [← hS, ← hI]; exact h1, by rw [← hS]; exact h2, rfl⟩)
  rw [← hS, ← hI] at HNF
  clear hg hr hl hS hI
  go_enter Try.func14, Try.ntmps14
  go_wp2
  go_step3
  go_wp2_with fail
  refine HM.out.mono ?_
  rintro e w1 ⟨rfl, hb1⟩
  have HB1 := Lib.hid hb1
  clear HM hb1
  go_wp2_with fail
  refine (HNF.out w1 HB1.out).mono ?_
  rintro e w2 ⟨g, aR, aS, cR, cS, rfl, hf, hb2⟩
  have HF2 := Lib.hid hf
  have HB2 := Lib.hid hb2
  clear HNF hf hb2
  have HST := Lib.hid (show Bld w w2 g aR aS n cR cS S 0 I (beg S I) from ⟨.nil _, ⟨HF2.out.blk, ⟨own_more HF2.out.rest.own HB1.out.size⟩, ⟨own_more HF2.out.tab.own HB1.out.size⟩, Nat.le_trans HB1.out.size HF2.out.lo, HF2.out.neR, HF2.out.neS, HF2.out.ne⟩, fun k hk => by omega, HB1.out.trans (HB2.out.mono HB1.out.size)⟩)
  clear HF2 HB1 HB2
  go_wp2
  go_step3
  go_wp2
  go_loopw [14] (fun iv wr => ∃ (first ab : Nat) (s : StD), iv = .int .i64 (first : Int) ∧ first ≤ n ∧ Hid (Bld w wr g aR aS n cR cS S ab I s) ∧ Hid (∀ k, k < first → S ≤ gt s.rest k)) (fun iv _ => n - (intOf iv).toNat)
  case atStart => exact ⟨0, 0, _, rfl, Nat.zero_le _, HST, Lib.hid fun k hk => by omega⟩
  case round =>
    clear HST
    obtain ⟨first, ab, s, rfl, hfn, HST, HFI⟩ := hrel
    by_cases hlt : first < n
    · have hlt2 : (first : Int) < (n : Int) := by omega
      go_wp2
      go_loopw [6] (fun iv w3 => ∃ (i ab : Nat) (s : StD), iv = .int .i64 (i : Int) ∧ i ≤ first ∧ Hid (Bld w w3 g aR aS n cR cS S ab I s) ∧ Hid (∀ k, k ≤ first → k ≠ i → S ≤ gt s.rest k)) (fun _ w3 => looseAt w3 g n S)
      case atStart => exact ⟨first, ab, s, rfl, Nat.le_refl _, HST, Lib.hid fun k hk hn => HFI.out k (by omega)⟩
      case round =>
        clear HST HFI
        obtain ⟨i, ab, s, rfl, hif, HST, HFI⟩ := hrel
        have hin : i < n := by omega
        obtain ⟨c0, c1, c2, c3⟩ := HST.out.fil.blk.four
        obtain ⟨r0, -, -, -⟩ := HST.out.fil.rest.get hin
        obtain ⟨x, hx⟩ : ∃ x, x = gt s.rest i := ⟨_, rfl⟩
        rw [← hx] at r0
        have HX := Lib.hid hx
        have HINV2 := Lib.hid (HINV.out.rch HST.out.rch)
        by_cases hp : x < S
        · have d2 : (x : Int) < (S : Int) := by omega
          have hp' : gt s.rest i < S := by rw [← hx]; exact hp
          obtain ⟨J, hJ⟩ := HINV2.out.rich hin hp'
          have hab : ab ≤ J := by
            rcases Nat.lt_or_ge J ab with e | e
            · have := HST.out.ab J e; have := hJ.at_; omega
            · exact e
          have hB : FstB S s.rest i := ⟨by rw [HINV2.out.len]; exact hin, hp', fun k hk => HFI.out k (by omega) (by omega)⟩
          have hJn : J < n := by have := hJ.lt; rw [HINV2.out.len] at this; exact this
          have hmax : ∀ k, gt s.rest k < 9223372036854775808 := fun k => by
            have h1 := gt_le_sum s.rest k
            rw [HINV2.out.sum] at h1
            have : S * n ≤ 2147483647 * 1000000 := Nat.mul_le_mul hS31 hn
            omega
          have HJ := Lib.hid hJ
          have HBB := Lib.hid hB
          have HFL := Lib.hid (fill_any (HST.out.fil.past (W' := wr.drew) (Below.refl _ _).drew) hin hn hp' hJ hab hmax)
          have HLS := Lib.hid (And.intro (looseAt_of HST.out.fil) (upd_loose hB hJ))
          clear hx hp' hJ hB hmax
          go_wp2
          go_region
          go_wp2_with fail
          refine HFL.out.mono ?_
          rintro e w4 ⟨rfl, hf4, hb4⟩
          have HS4 := Lib.hid (show Bld w w4 g aR aS n cR cS S J I (upd S s i J) from ⟨HST.out.rch.snoc HBB.out HJ.out, hf4, fun k hk => by
            rw [upd_gt HBB.out.lt HJ.out.lt]
            by_cases e : k = i
            · rw [if_pos e]; exact Nat.le_refl _
            · rw [if_neg e, if_neg (show ¬ k = J by omega)]
              exact HJ.out.fst k hk, HST.out.below.drew.trans hb4⟩)
          have HL4 := Lib.hid (looseAt_of hf4)
          have HFI4 := Lib.hid (show ∀ k, k ≤ first → k ≠ J → S ≤ gt (upd S s i J).rest k from fun k hk hkJ => by
            rw [upd_gt HBB.out.lt HJ.out.lt]
            by_cases e : k = i
            · rw [if_pos e]; exact Nat.le_refl _
            · rw [if_neg e, if_neg hkJ]
              exact HFI.out k hk e)
          clear hf4 hb4 c0 c1 c2 c3 r0 HFL
          by_cases hJf : first < J
          · have d3 : (first : Int) < (J : Int) := by omega
            have HFO := Lib.hid (show ∀ k, k < first + 1 → S ≤ gt (upd S s i J).rest k from fun k hk => HFI4.out k (by omega) (by omega))
            go_wp2
            go_roundw
            case rel => exact ⟨first + 1, J, _, by go_num, by omega, HS4, HFO⟩
            case measure => simp [intOf]; omega
          · have d3 : ¬ (first : Int) < (J : Int) := by omega
            go_wp2
            go_roundw
            case rel => exact ⟨J, J, _, rfl, by omega, HS4, HFI4⟩
            case measure =>
              have := HLS.out.1
              have := HLS.out.2
              have := HL4.out
              omega
        · have d2 : ¬ (x : Int) < (S : Int) := by omega
          have HFO := Lib.hid (show ∀ k, k < first + 1 → S ≤ gt s.rest k from fun k hk => by
            by_cases e : k = i
            · subst e; rw [← HX.out]; omega
            · exact HFI.out k (by omega) e)
          clear hx
          go_wp2
          go_region
          go_wp2
          go_roundw
          case rel => exact ⟨first + 1, ab, s, by go_num, by omega, Lib.hid HST.out.drew, HFO⟩
          case measure => simp [intOf]; omega
    · have e : first = n := by omega
      subst e
      have FIN := Lib.hid (HTB.out s HST.out.rch fun k hk => HFI.out k (by rw [HST.out.fil.rest.len] at hk; exact hk))
      obtain ⟨c0, c1, c2, c3⟩ := HST.out.fil.blk.four
      have FIN2 := Lib.hid (And.intro HST.out.fil.tab HST.out.below)
      go_wp2
      rw [Exit.noGoto_ret]
      go_ret2
      exact ⟨aS, cS, s.tab, rfl, FIN2.out.1, FIN.out, FIN2.out.2⟩
end Go.Proofs.Ytoflbfkmkalgcaa
