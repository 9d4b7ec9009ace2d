/- The neighbour that a draw selects by a table: the program's and the document's. -/
import Derived.Test.YtoflbfkmkalgcaaPiA
namespace Go.Proofs.Ytoflbfkmkalgcaa
open Go.RowKit Me Va Al

/-- Whether a draw selects a neighbour by a table, and which one. -/
def selB (l : List ArcD) (T : List CelD) (x : Nat) : Bool := decide (x < totalOf l) && decide (T.length = l.length) && decide (toOf T (sumOf l) x < l.length)
def selN (l : List ArcD) (T : List CelD) (x : Nat) : Nat := if selB l T x then toOf T (sumOf l) x else 0
theorem sel_may {l : List ArcD} {T : List CelD} {x : Nat} (h : mayT l T = true) (hx : x < totalOf l) : selB l T x = true ∧ selN l T x = toOf T (sumOf l) x := by
  obtain ⟨hg, hl, hok, hc⟩ := mayT_parts h
  have h2 : toOf T (sumOf l) x < l.length := toOf_lt (good_pos hg) hl (fun c hc => (hok c hc).2) (by rw [total_good hg] at hx; exact hx)
  have h1 : selB l T x = true := by
    unfold selB
    rw [decide_eq_true hx, decide_eq_true hl, decide_eq_true h2]
    rfl
  exact ⟨h1, by unfold selN; rw [if_pos h1]⟩
theorem sel_no {l : List ArcD} {T : List CelD} {x : Nat} (hx : totalOf l ≤ x) : selB l T x = false ∧ selN l T x = 0 := by
  have h1 : selB l T x = false := by unfold selB; rw [decide_eq_false (by omega)]; rfl
  exact ⟨h1, by unfold selN; rw [h1]; rfl⟩
set_option maxRecDepth 100000 in
set_option maxHeartbeats 1000000 in
theorem alias_any (L : Option Addr) (n c : Nat) (l : List ArcD) (A : Option Addr) (m cT : Nat) (T : List CelD) (x : Nat) (w : World) (hl : l.length = n) (hn : n ≤ 1000000) (hm : T.length = m) (hm2 : m ≤ 1000000) (hx : x < 18446744073709551616) (hr : Arcs w w.heap.size L l) (hc : Cels w w.heap.size A T) :
    Calls Try.prog 15 #[.slice L n c, .slice A m cT, .int .u64 (x : Int)] w fun e w' => e = .returned (.tuple #[.int .i64 (selN l T x : Int), .bool (selB l T x)]) ∧ Below w.heap.size w w' := by
  have HT := Lib.hid (ptotal_any L n c l w hl hn hr)
  obtain ⟨t, ht⟩ : ∃ t, t = totalOf l := ⟨_, rfl⟩
  have htl := total_lt (l := l) (by omega)
  rw [← ht] at HT htl
  obtain ⟨sb, hsb⟩ : ∃ sb, sb = selB l T x := ⟨_, rfl⟩
  obtain ⟨sn, hsn⟩ : ∃ sn, sn = selN l T x := ⟨_, rfl⟩
  have hsn2 := hsn
  unfold selN at hsn2
  rw [← hsb] at hsn2
  have hsb2 := hsb
  unfold selB at hsb2
  rw [← ht, hm, hl] at hsb2
  rw [← hsb, ← hsn]
  clear hsb hsn
  by_cases hxt : x < t
  · have hxt2 : ¬ (t : Int) ≤ (x : Int) := by omega
    have hgd : good l = true := good_of_total (by rw [← ht]; exact hxt)
    by_cases hmn : m = n
    · subst hmn
      have hS0 := good_pos hgd
      have hSl := may_sum (good_may hgd).2
      have hxn : x < m * sumOf l := by rw [← hl, ← total_good hgd, ← ht]; exact hxt
      obtain ⟨S, hS⟩ : ∃ S, S = sumOf l := ⟨_, rfl⟩
      have HSM := Lib.hid (show ∀ W, Below w.heap.size w W → Calls Try.prog 32 #[.slice L m c] W (fun e W' => e = .returned (.int .u64 (S : Int)) ∧ Below W.heap.size W W') from fun W hW => by rw [hS]; exact sum_any L m c l W hl (by omega) ((hr.below hW).more hW.size))
      rw [← hS] at hS0 hSl hxn hsb2 hsn2
      rw [decide_eq_true hxt, decide_eq_true rfl, Bool.true_and, Bool.true_and] at hsb2
      have d0 : ((m : Int) != (m : Int)) = false := by simp
      obtain ⟨q, hq1⟩ : ∃ q, q = x / S := ⟨_, rfl⟩
      obtain ⟨r, hr1⟩ : ∃ r, r = x % S := ⟨_, rfl⟩
      have hqm : q < m := by rw [hq1]; exact (Nat.div_lt_iff_lt_mul hS0).2 hxn
      have hrS : r < S := by rw [hr1]; exact Nat.mod_lt _ hS0
      have e1 : Int.tdiv (x : Int) (S : Int) = (q : Int) := by rw [hq1]; exact (Int.ofNat_tdiv x S).symm
      have e2 : Int.tmod (x : Int) (S : Int) = (r : Int) := by rw [hr1]; exact (Int.ofNat_tmod x S).symm
      obtain ⟨a, p, rfl, hp, ha, h0, h1, h2, h3⟩ := hc.at (k := q) (by rw [hm]; exact hqm)
      have htz : toOf T S x = if r < p.cut then q else p.oth := by unfold toOf; rw [← hq1, ← hr1, hp]
      rw [htz] at hsb2 hsn2
      have hS1 : ¬ (S : Int) = 0 := by omega
      have hS2 : ¬ S = 0 := by omega
      have hqn : (q : Int) < (m : Int) := by omega
      have ha2 : (a.add (q * 2)).block < w.heap.size := by rw [block_add]; exact ha
      have HC0 := Lib.hid (fun (W : World) (hW : Below w.heap.size w W) => (hW.cell ha2).trans h0)
      have HC1 := Lib.hid (fun (W : World) (hW : Below w.heap.size w W) => (hW.cell (p := ⟨(a.add (q * 2)).block, (a.add (q * 2)).off + 1, none⟩) ha2).trans h1)
      have v1 : IntKind.u64.wrap (m : Int) = (m : Int) := IntWalk.u64_in _ (by omega)
      have v2 : IntKind.u64.wrap (p.oth : Int) = (p.oth : Int) := IntWalk.u64_in _ (by omega)
      clear hp htz hq1 hr1 hl hc hr hS hm ht hgd hxn h0 h1 ha2
      by_cases hlt : r < p.cut
      · have hlt2 : (r : Int) < (p.cut : Int) := by omega
        rw [if_pos hlt, decide_eq_true hqm] at hsb2
        rw [hsb2, if_pos rfl, if_pos hlt] at hsn2
        subst hsb2 hsn2
        go_enter Try.func15, Try.ntmps15
        go_wp2_with fail
        refine HT.out.mono ?_
        rintro e w1 ⟨rfl, hb1⟩
        have HB1 := Lib.hid hb1
        clear hb1 HT
        go_wp2_with fail
        refine (HSM.out w1 HB1.out).mono ?_
        rintro e w2 ⟨rfl, hb2⟩
        have HB2 := Lib.hid (HB1.out.trans (hb2.mono HB1.out.size))
        have g0 := HC0.out w2 HB2.out
        have g1 := HC1.out w2 HB2.out
        clear hb2 HSM
        go_wp2
        go_region
        go_wp2
        go_ret2
        exact ⟨rfl, HB2.out.drew⟩
      · have hlt2 : ¬ (r : Int) < (p.cut : Int) := by omega
        rw [if_neg hlt] at hsb2
        rw [if_neg hlt] at hsn2
        by_cases hom : p.oth < m
        · have hom2 : ¬ (m : Int) ≤ (p.oth : Int) := by omega
          rw [decide_eq_true hom] at hsb2
          rw [hsb2, if_pos rfl] at hsn2
          subst hsb2 hsn2
          go_enter Try.func15, Try.ntmps15
          go_wp2_with fail
          refine HT.out.mono ?_
          rintro e w1 ⟨rfl, hb1⟩
          have HB1 := Lib.hid hb1
          clear hb1 HT
          go_wp2_with fail
          refine (HSM.out w1 HB1.out).mono ?_
          rintro e w2 ⟨rfl, hb2⟩
          have HB2 := Lib.hid (HB1.out.trans (hb2.mono HB1.out.size))
          have g0 := HC0.out w2 HB2.out
          have g1 := HC1.out w2 HB2.out
          clear hb2 HSM
          go_wp2
          go_region
          go_wp2
          go_ret2
          exact ⟨rfl, HB2.out.drew⟩
        · have hom2 : (m : Int) ≤ (p.oth : Int) := by omega
          rw [decide_eq_false hom] at hsb2
          rw [hsb2, if_neg (by decide)] at hsn2
          subst hsb2 hsn2
          go_enter Try.func15, Try.ntmps15
          go_wp2_with fail
          refine HT.out.mono ?_
          rintro e w1 ⟨rfl, hb1⟩
          have HB1 := Lib.hid hb1
          clear hb1 HT
          go_wp2_with fail
          refine (HSM.out w1 HB1.out).mono ?_
          rintro e w2 ⟨rfl, hb2⟩
          have HB2 := Lib.hid (HB1.out.trans (hb2.mono HB1.out.size))
          have g0 := HC0.out w2 HB2.out
          have g1 := HC1.out w2 HB2.out
          clear hb2 HSM
          go_wp2
          go_region
          go_wp2
          go_ret2
          exact ⟨rfl, HB2.out.drew⟩
    · rw [decide_eq_false hmn, Bool.and_false, Bool.false_and] at hsb2
      rw [hsb2, if_neg (by decide)] at hsn2
      subst hsb2 hsn2
      have hne : ((m : Int) != (n : Int)) = true := by rw [bne_iff_ne]; omega
      clear hl hr hc hm ht hgd
      go_enter Try.func15, Try.ntmps15
      go_wp2_with fail
      refine HT.out.mono ?_
      rintro e w1 ⟨rfl, hb1⟩
      go_wp2
      go_ret2
      exact ⟨rfl, hb1⟩
  · have hxt2 : (t : Int) ≤ (x : Int) := by omega
    rw [decide_eq_false hxt, Bool.false_and, Bool.false_and] at hsb2
    rw [hsb2, if_neg (by decide)] at hsn2
    subst hsb2 hsn2
    clear hl hr hc hm ht
    go_enter Try.func15, Try.ntmps15
    go_wp2_with fail
    refine HT.out.mono ?_
    rintro e w1 ⟨rfl, hb1⟩
    go_wp2
    go_ret2
    exact ⟨rfl, hb1⟩
set_option maxRecDepth 100000 in
set_option maxHeartbeats 1000000 in
theorem refto_any (A : Option Addr) (n c : Nat) (T : List CelD) (S x : Nat) (w : World) (hl : T.length = n) (hn : n ≤ 1000000) (hS0 : 0 < S) (hS : S ≤ 2147483647) (hx : x < 18446744073709551616) (hq : x / S < n) (hc : Cels w w.heap.size A T) :
    Calls Try.prog 39 #[.slice A n c, .int .u64 (S : Int), .int .u64 (x : Int)] w fun e w' => e = .returned (.int .i64 (toOf T S x : Int)) ∧ Below w.heap.size w w' := by
  obtain ⟨q, hq1⟩ : ∃ q, q = x / S := ⟨_, rfl⟩
  obtain ⟨r, hr1⟩ : ∃ r, r = x % S := ⟨_, rfl⟩
  rw [← hq1] at hq
  have e1 : Int.tdiv (x : Int) (S : Int) = (q : Int) := by rw [hq1]; exact (Int.ofNat_tdiv x S).symm
  have e2 : Int.tmod (x : Int) (S : Int) = (r : Int) := by rw [hr1]; exact (Int.ofNat_tmod x S).symm
  obtain ⟨a, p, rfl, hp, ha, h0, h1, h2, h3⟩ := hc.at (k := q) (by rw [hl]; exact hq)
  have htz : toOf T S x = if r < p.cut then q else p.oth := by unfold toOf; rw [← hq1, ← hr1, hp]
  have HT := Lib.hid htz
  have HB := Lib.hid (show Below w.heap.size w (w.alloc (.cells #[.int .u64 (p.cut : Int), .int .u32 (p.oth : Int)] 46)) from (Below.refl _ _).alloc (Nat.le_refl _) _)
  have hS1 : ¬ (S : Int) = 0 := by omega
  have hS2 : ¬ S = 0 := by omega
  have hrx : r < S := by rw [hr1]; exact Nat.mod_lt _ hS0
  have hqn : (q : Int) < (n : Int) := by omega
  clear hp htz hq1 hr1 hl hc
  by_cases hlt : r < p.cut
  · have hlt2 : (r : Int) < (p.cut : Int) := by omega
    have FIN := Lib.hid (show toOf T S x = q by rw [HT.out, if_pos hlt])
    go_enter Try.func39, Try.ntmps39
    go_wp2
    go_region
    go_wp2
    go_ret
    exact ⟨ret_int (by rw [FIN.out]), HB.out.drew⟩
  · have hlt2 : ¬ (r : Int) < (p.cut : Int) := by omega
    have FIN := Lib.hid (show toOf T S x = p.oth by rw [HT.out, if_neg hlt])
    go_enter Try.func39, Try.ntmps39
    go_wp2
    go_region
    go_wp2
    go_ret
    exact ⟨ret_int (by rw [FIN.out]), HB.out.drew⟩
end Go.Proofs.Ytoflbfkmkalgcaa
