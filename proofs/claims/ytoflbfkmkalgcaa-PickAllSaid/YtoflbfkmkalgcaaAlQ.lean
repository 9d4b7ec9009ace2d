/- Whether a table is right: the document's. -/
import Derived.Test.YtoflbfkmkalgcaaAlD
import Derived.Test.YtoflbfkmkalgcaaAlB
import Derived.Deep.QuietTactic
import Derived.BigQuiet
namespace Go.Proofs.Ytoflbfkmkalgcaa
open Go.RowKit Me Va Al

theorem bdrewN {B : Nat} {w w' : World} (h : Below B w w') (q : Nat) : Below B w (w'.drewN q) := ⟨h.os, h.tape, h.output, h.size, h.block⟩
/-- Whether a table is right. -/
def okCel (S n : Nat) (c : CelD) : Bool := decide (c.cut ≤ S) && decide (c.oth < n)
def mayT (l : List ArcD) (T : List CelD) : Bool :=
  good l && decide (T.length = l.length) && T.all (okCel (sumOf l) l.length) && (List.range l.length).all fun k => decide (Al.cnt (sumOf l) k T = gt (restsOf l) k)
theorem Tabl.may {l : List ArcD} {T : List CelD} (hg : good l = true) (h : Tabl l T) : mayT l T = true := by
  unfold mayT
  rw [hg, Bool.true_and, Bool.and_eq_true, Bool.and_eq_true]
  refine ⟨⟨by simp [h.len], List.all_eq_true.2 fun c hc => ?_⟩, List.all_eq_true.2 fun k hk => ?_⟩
  · obtain ⟨h1, h2⟩ := h.ok c hc
    unfold okCel
    simp [h1, h2]
  · have hk := List.mem_range.1 hk
    have hp := List.getElem?_eq_getElem hk
    rw [h.cnt hp, restsOf_gt hp]
    simp
set_option maxRecDepth 100000 in
theorem neigh_any (L : Option Addr) (n c : Nat) (l : List ArcD) (w : World) (hl : l.length = n) (hn : n ≤ 4294967296) (hr : Arcs w w.heap.size L l) :
    Calls Try.prog 25 #[.slice L n c] w fun e w' => e = .returned (.bool (good l)) ∧ Below w.heap.size w w' := by
  have HM := Lib.hid (refmay_any L n c l w hl hn hr)
  obtain ⟨m, hm⟩ : ∃ m, m = may l := ⟨_, rfl⟩
  have hg : good l = (decide (0 < n) && m) := by unfold good; rw [hl, hm]
  rw [← hm] at HM
  have HG := Lib.hid hg
  clear hl hr hm hg
  by_cases h0 : 0 < n
  · have h1 : (0 : Int) < (n : Int) := by omega
    go_enter Try.func25, Try.ntmps25
    go_wp2_with fail
    refine HM.out.mono ?_
    rintro e w1 ⟨rfl, hb1⟩
    go_wp2
    go_ret
    exact ⟨by rw [HG.out]; simp [h0], hb1⟩
  · have h1 : ¬ (0 : Int) < (n : Int) := by omega
    go_enter Try.func25, Try.ntmps25
    go_wp2
    go_ret
    exact ⟨by rw [HG.out]; simp [h0], Below.refl _ _⟩
/-- What is known of cells and neighbours as long as they stand. -/
structure MayIn (w : World) (L : Option Addr) (n : Nat) (l : List ArcD) (A : Option Addr) (T : List CelD) : Prop where
  len : l.length = n
  lent : T.length = n
  arcs : Arcs w w.heap.size L l
  cels : Cels w w.heap.size A T
theorem mayT_no1 {l : List ArcD} {T : List CelD} (h : good l = false) : mayT l T = false := by unfold mayT; rw [h]; rfl
theorem mayT_no2 {l : List ArcD} {T : List CelD} (h : T.length ≠ l.length) : mayT l T = false := by
  unfold mayT
  have : decide (T.length = l.length) = false := by simp [h]
  rw [this, Bool.and_false]
  rfl
theorem mayT_no3 {l : List ArcD} {T : List CelD} {k : Nat} {c : CelD} (hc : T[k]? = some c) (h : okCel (sumOf l) l.length c = false) : mayT l T = false := by
  unfold mayT
  have : T.all (okCel (sumOf l) l.length) = false := by
    rw [List.all_eq_false]
    exact ⟨c, List.mem_of_getElem? hc, by rw [h]; simp⟩
  rw [this, Bool.and_false]
  rfl
theorem mayT_no4 {l : List ArcD} {T : List CelD} {k : Nat} (hk : k < l.length) (h : Al.cnt (sumOf l) k T ≠ gt (restsOf l) k) : mayT l T = false := by
  unfold mayT
  have : ((List.range l.length).all fun k => decide (Al.cnt (sumOf l) k T = gt (restsOf l) k)) = false := by
    rw [List.all_eq_false]
    exact ⟨k, List.mem_range.2 hk, by simp [h]⟩
  rw [this, Bool.and_false]
theorem mayT_yes {l : List ArcD} {T : List CelD} (h1 : good l = true) (h2 : T.length = l.length) (h3 : ∀ k c, k < T.length → T[k]? = some c → okCel (sumOf l) l.length c = true) (h4 : ∀ k, k < l.length → Al.cnt (sumOf l) k T = gt (restsOf l) k) : mayT l T = true := by
  unfold mayT
  rw [h1, Bool.true_and, Bool.and_eq_true, Bool.and_eq_true]
  refine ⟨⟨by simp [h2], List.all_eq_true.2 fun c hc => ?_⟩, List.all_eq_true.2 fun k hk => by simpa using h4 k (List.mem_range.1 hk)⟩
  obtain ⟨k, hk, e⟩ := List.getElem_of_mem hc
  exact h3 k c hk (by rw [← e]; exact List.getElem?_eq_getElem hk)
theorem cnt_le (w k : Nat) (T : List CelD) : Al.cnt w k T ≤ T.length * (2 * w) := cntG_le w k 0 T
set_option maxRecDepth 100000 in
set_option maxHeartbeats 4000000 in
theorem refmayT_any (L : Option Addr) (n c : Nat) (l : List ArcD) (A : Option Addr) (m cT : Nat) (T : List CelD) (w : World) (hl : l.length = n) (hn : n ≤ 1000000) (hm : T.length = m) (hm2 : m ≤ 1000000) (hr : Arcs w w.heap.size L l) (hc : Cels w w.heap.size A T) :
    Calls Try.prog 12 #[.slice L n c, .slice A m cT] w fun e w' => e = .returned (.bool (mayT l T)) ∧ Below w.heap.size w w' := by
  have HNB := Lib.hid (neigh_any L n c l w hl (by omega) hr)
  obtain ⟨g, hg⟩ : ∃ g, g = good l := ⟨_, rfl⟩
  rw [← hg] at HNB
  cases g with
  | false =>
    have FIN := Lib.hid (mayT_no1 (T := T) hg.symm)
    clear hl hm hr hc hg
    go_enter Try.func12, Try.ntmps12
    go_wp2_with fail
    refine HNB.out.mono ?_
    rintro e w1 ⟨rfl, hb1⟩
    go_wp2
    go_ret
    exact ⟨ret_bool FIN.out.symm, hb1⟩
  | true =>
    by_cases hmn : m = n
    · subst hmn
      obtain ⟨S, hS⟩ : ∃ S, S = sumOf l := ⟨_, rfl⟩
      have hS31 : S ≤ 2147483647 := by rw [hS]; exact may_sum (good_may hg.symm).2
      have HSM := Lib.hid (show ∀ W, Below w.heap.size w W → Calls Try.prog 19 #[.slice L m c] W (fun e W' => e = .returned (.int .u64 (S : Int)) ∧ W = W') from fun W hW => by rw [hS]; exact refsum_any L m c l W hl (by omega) ((hr.below hW).more hW.size))
      have HG := Lib.hid hg
      have HSS := Lib.hid hS
      have HL := Lib.hid hl
      have HLT := Lib.hid hm
      have HR := Lib.hid hr
      have HC := Lib.hid hc
      have v1 : IntKind.u64.wrap (m : Int) = (m : Int) := IntWalk.u64_in _ (by omega)
      clear hl hm hr hc hg hS
      go_enter Try.func12, Try.ntmps12
      go_wp2_with fail
      refine HNB.out.mono ?_
      rintro e w1 ⟨rfl, hb1⟩
      have HB1 := Lib.hid hb1
      have HC1 := Lib.hid ((HC.out.below hb1).more hb1.size)
      have HR1 := Lib.hid ((HR.out.below hb1).more hb1.size)
      clear hb1 HNB
      have d0 : ((m : Int) != (m : Int)) = false := by simp
      go_wp2_with fail
      refine (HSM.out w1 HB1.out).mono ?_
      rintro e w2 ⟨rfl, rfl⟩
      go_wp2
      go_loop [22] (fun i => ∃ k : Nat, k ≤ m ∧ i = .int .i64 k ∧ Hid (∀ j x, j < k → T[j]? = some x → okCel S m x = true)) (fun i => m - (intOf i).toNat)
      case atStart => exact ⟨0, Nat.zero_le _, rfl, Lib.hid fun j x hj => by omega⟩
      case round =>
        obtain ⟨k, hk, rfl, HOK⟩ := hrel
        by_cases hlt : k < m
        · have hlt2 : (k : Int) < (m : Int) := by omega
          obtain ⟨a, x, rfl, hx, ha, h0, h1, h2, h3⟩ := HC1.out.at (k := k) (by rw [HLT.out]; exact hlt)
          have HX := Lib.hid hx
          clear hx
          by_cases c1 : S < x.cut
          · have d1 : (S : Int) < (x.cut : Int) := by omega
            have FIN := Lib.hid (mayT_no3 HX.out (show okCel (sumOf l) l.length x = false by unfold okCel; rw [← HSS.out]; simp; intro h; omega))
            go_wp2
            go_ret
            exact ⟨ret_bool FIN.out.symm, HB1.out⟩
          · have d1 : ¬ (S : Int) < (x.cut : Int) := by omega
            by_cases c2 : m ≤ x.oth
            · have d2 : (m : Int) ≤ (x.oth : Int) := by omega
              have FIN := Lib.hid (mayT_no3 HX.out (show okCel (sumOf l) l.length x = false by unfold okCel; rw [HL.out]; simp; intro _; omega))
              go_wp2
              go_ret
              exact ⟨ret_bool FIN.out.symm, HB1.out⟩
            · have d2 : ¬ (m : Int) ≤ (x.oth : Int) := by omega
              have HOK2 := Lib.hid (show ∀ j y, j < k + 1 → T[j]? = some y → okCel S m y = true from fun j y hj hy => by
                rcases Nat.lt_or_eq_of_le (Nat.le_of_lt_succ hj) with e | e
                · exact HOK.out j y e hy
                · subst e
                  rw [HX.out] at hy
                  injection hy with hy
                  subst hy
                  unfold okCel
                  simp
                  omega)
              go_wp2
              go_round
              case rel => exact ⟨k + 1, by omega, by go_num, HOK2⟩
              case measure => simp [intOf]; omega
        · have e : k = m := by omega
          subst e
          go_wp2
          go_loopw [46] (fun i wr => ∃ j : Nat, j ≤ k ∧ i = .int .i64 j ∧ Hid (∀ q, q < j → Al.cnt S q T = gt (restsOf l) q) ∧ Hid (Below w1.heap.size w1 wr)) (fun i _ => k - (intOf i).toNat)
          case atStart => exact ⟨0, Nat.zero_le _, rfl, Lib.hid (fun j hj => by omega), Lib.hid (Below.refl _ _)⟩
          case round =>
            obtain ⟨j, hj, rfl, HCN, HB⟩ := hrel
            by_cases hlj : j < k
            · have hlj2 : (j : Int) < (k : Int) := by omega
              obtain ⟨b, p, rfl, hp, -, -, g1, g2, g3⟩ := (HR1.out.below HB.out).at (k := j) (by rw [HL.out]; exact hlj)
              obtain ⟨x, hx⟩ : ∃ x, x = k * p.weight := ⟨_, rfl⟩
              have hxi : (k : Int) * (p.weight : Int) = (x : Int) := by rw [hx]; exact (Int.natCast_mul _ _).symm
              have hxm : x < 9223372036854775808 := by
                have : k * p.weight ≤ 1000000 * 4294967295 := Nat.mul_le_mul hm2 (by omega)
                omega
              have v2 : IntKind.u64.wrap (p.weight : Int) = (p.weight : Int) := IntWalk.u64_in _ (by omega)
              have v3 : IntKind.u64.wrap (x : Int) = (x : Int) := IntWalk.u64_in _ (by omega)
              obtain ⟨y, hy⟩ : ∃ y, y = Al.cnt S j T := ⟨_, rfl⟩
              have hyl : wr64 (cntZ S (j : Int) T) = y := by
                have h4 := cnt_le S j T
                rw [HLT.out] at h4
                have : k * (2 * S) ≤ 1000000 * (2 * 2147483647) := Nat.mul_le_mul hm2 (by omega)
                rw [cntZ_nat, ← hy]
                exact wr64_id (by omega)
              have HCT := Lib.hid (show ∀ W, Below w1.heap.size w1 W → Calls Try.prog 26 #[.slice A k cT, .int .u64 (S : Int), .int .i64 (j : Int)] W (fun e W' => e = .returned (.int .u64 (y : Int)) ∧ W' = W) from fun W hW => by
                have := refcount_any A k cT T S (j : Int) W HLT.out hm2 (by omega) ((HC1.out.below hW).more hW.size) (by omega)
                rwa [hyl] at this)
              have HRG := Lib.hid (show gt (restsOf l) j = x from by rw [restsOf_gt hp, HL.out, hx])
              have HY := Lib.hid hy
              clear hp hx hy hyl
              by_cases c3 : y = x
              · have d3 : ((y : Int) != (x : Int)) = false := by simp [c3]
                have HCN2 := Lib.hid (show ∀ q, q < j + 1 → Al.cnt S q T = gt (restsOf l) q from fun q hq => by
                  rcases Nat.lt_or_eq_of_le (Nat.le_of_lt_succ hq) with e | e
                  · exact HCN.out q e
                  · rw [e, ← HY.out, HRG.out, c3])
                clear c3
                go_wp2_with fail
                go_quiet ((go_at_call 26; exact Calls.quiet_of_same (HCT.out _ (bdrewN HB.out _))))
                have HB2 := Lib.hid (show Below w1.heap.size w1 (wr.drewN nq) from bdrewN HB.out nq)
                go_wp2
                go_roundw
                case rel => exact ⟨j + 1, by omega, by go_num, HCN2, HB2⟩
                case measure => simp [intOf]; omega
              · have d3 : ((y : Int) != (x : Int)) = true := by simp; omega
                have FIN := Lib.hid (mayT_no4 (l := l) (T := T) (k := j) (by rw [HL.out]; exact hlj) (by rw [← HSS.out, ← HY.out, HRG.out]; exact c3))
                clear c3
                go_wp2_with fail
                go_quiet ((go_at_call 26; exact Calls.quiet_of_same (HCT.out _ (bdrewN HB.out _))))
                have HB2 := Lib.hid (show Below w.heap.size w (wr.drewN nq) from bdrewN (HB1.out.trans (HB.out.mono HB1.out.size)) nq)
                go_wp2
                go_ret
                exact ⟨ret_bool FIN.out.symm, HB2.out⟩
            · have e : j = k := by omega
              subst e
              have FIN := Lib.hid (mayT_yes (l := l) (T := T) HG.out.symm (by rw [HL.out, HLT.out]) (fun q x hq hx => by rw [← HSS.out, HL.out]; exact HOK.out q x (by rw [HLT.out] at hq; exact hq) hx) (fun q hq => by rw [← HSS.out]; exact HCN.out q (by rw [HL.out] at hq; exact hq)))
              have HB2 := Lib.hid (HB1.out.trans (HB.out.mono HB1.out.size))
              go_wp2
              go_ret
              exact ⟨ret_bool FIN.out.symm, HB2.out⟩
    · have d0 : ((n : Int) != (m : Int)) = true := by simp; omega
      have FIN := Lib.hid (mayT_no2 (l := l) (T := T) (by omega))
      clear hl hm hr hc hg
      go_enter Try.func12, Try.ntmps12
      go_wp2_with fail
      refine HNB.out.mono ?_
      rintro e w1 ⟨rfl, hb1⟩
      go_wp2
      go_ret
      exact ⟨ret_bool FIN.out.symm, hb1⟩
end Go.Proofs.Ytoflbfkmkalgcaa
