/- PickAll's law. -/
import Derived.Test.YtoflbfkmkalgcaaPiF
import Derived.Test.YtoflbfkmkalgcaaPiW
import Derived.Deep.QuietTactic
import Derived.BigQuiet
namespace Go.Proofs.Ytoflbfkmkalgcaa
open Go.RowKit Me Va Al

/-- How many of the first numbers come to a neighbour by intervals. -/
def ivc (l : List ArcD) (k x : Nat) : Nat := min x (strt l (k + 1)) - min x (strt l k)
theorem ivc_zero (l : List ArcD) (k : Nat) : ivc l k 0 = 0 := by unfold ivc; omega
theorem ivc_step {l : List ArcD} {x i : Nat} (h : Ivl l x i) (k : Nat) : ivc l k (x + 1) = ivc l k x + if i = k then 1 else 0 := by
  have h1 := h.lo
  have h2 := h.hi
  have h3 := strt_mono l (show k ≤ k + 1 by omega)
  unfold ivc
  rcases Nat.lt_trichotomy k i with e | e | e
  · have := strt_mono l (show k + 1 ≤ i by omega)
    rw [if_neg (by omega)]
    omega
  · subst e
    rw [if_pos rfl]
    omega
  · have := strt_mono l (show i + 1 ≤ k by omega)
    rw [if_neg (by omega)]
    omega
theorem ivc_all {l : List ArcD} {k : Nat} {p : ArcD} (h : l[k]? = some p) : ivc l k (l.length * sumOf l) = l.length * p.weight := by
  have h1 := strt_le l (k + 1)
  have h2 := strt_le l k
  have h3 := strt_next h
  unfold ivc
  omega
theorem ivc_le (l : List ArcD) (k x : Nat) : ivc l k x ≤ x := by unfold ivc; omega
set_option maxRecDepth 100000 in
set_option maxHeartbeats 4000000 in
theorem pickAll_law (L : Option Addr) (n c : Nat) (l : List ArcD) (w : World) (hl : l.length = n) (hr : Arcs w w.heap.size L l) :
    Calls Try.prog 7 #[.slice L n c] w fun e w' => e = .returned (.bool true) ∧ Below w.heap.size w w' := by
  obtain ⟨i0, hi0, hz0, hz1, hz2⟩ := info_parts u64_info
  have HAW := Lib.hid awake17_any
  by_cases h100 : 30 < n
  · have h100' : (30 : Int) < (n : Int) := by omega
    clear hl hr
    go_enter Try.func7, Try.ntmps7
    go_wp2_with fail
    refine (HAW.out _).mono ?_
    rintro e w1 ⟨rfl, hb1⟩
    go_wp2
    go_ret
    exact ⟨rfl, hb1⟩
  have h100' : ¬ (30 : Int) < (n : Int) := by omega
  by_cases h0 : n = 0
  · subst h0
    clear hl hr
    go_enter Try.func7, Try.ntmps7
    go_wp2_with fail
    refine (HAW.out _).mono ?_
    rintro e w1 ⟨rfl, hb1⟩
    go_wp2
    go_ret
    exact ⟨rfl, hb1⟩
  have h0' : ((n : Int) == 0) = false := by rw [beq_eq_false_iff_ne]; omega
  have HM := Lib.hid (refmay_any L n c l w hl (by omega) hr)
  obtain ⟨m, hm⟩ : ∃ m, m = may l := ⟨_, rfl⟩
  rw [← hm] at HM
  cases m with
  | false =>
    clear hl hr hm
    go_enter Try.func7, Try.ntmps7
    go_wp2_with fail
    refine HM.out.mono ?_
    rintro e w1 ⟨rfl, hb1⟩
    have HB1 := Lib.hid hb1
    clear hb1
    go_wp2_with fail
    refine (HAW.out w1).mono ?_
    rintro e w2 ⟨rfl, hb2⟩
    have HB2 := Lib.hid (HB1.out.trans (hb2.mono HB1.out.size))
    clear hb2
    go_wp2
    go_ret
    exact ⟨rfl, HB2.out⟩
  | true =>
    have hg : good l = true := by unfold good; rw [← hm, hl]; simp; omega
    obtain ⟨S, hS⟩ : ∃ S, S = sumOf l := ⟨_, rfl⟩
    have hS31 : S ≤ 2147483647 := by rw [hS]; exact may_sum hm.symm
    have HSM := Lib.hid (show ∀ W, Below w.heap.size w W → Calls Try.prog 19 #[.slice L n c] W (fun e W' => e = .returned (.int .u64 (S : Int)) ∧ W = W') from fun W hW => by rw [hS]; exact refsum_any L n c l W hl (by omega) ((hr.below hW).more hW.size))
    by_cases hS1000 : 1000 < S
    · have d3 : (1000 : Int) < (S : Int) := by omega
      clear hl hr hm hg hS
      go_enter Try.func7, Try.ntmps7
      go_wp2_with fail
      refine HM.out.mono ?_
      rintro e w1 ⟨rfl, hb1⟩
      have HB1 := Lib.hid hb1
      clear hb1
      go_wp2_with fail
      refine (HSM.out w1 HB1.out).mono ?_
      rintro e w2 ⟨rfl, rfl⟩
      go_wp2_with fail
      refine (HAW.out w1).mono ?_
      rintro e w2 ⟨rfl, hb2⟩
      have HB2 := Lib.hid (HB1.out.trans (hb2.mono HB1.out.size))
      clear hb2
      go_wp2
      go_ret
      exact ⟨rfl, HB2.out⟩
    have d3 : ¬ (1000 : Int) < (S : Int) := by omega
    obtain ⟨t, ht⟩ : ∃ t, t = totalOf l := ⟨_, rfl⟩
    have htl := total_lt (l := l) (by omega)
    rw [← ht] at htl
    have HT := Lib.hid (show ∀ W, Below w.heap.size w W → Calls Try.prog 11 #[.slice L n c] W (fun e W' => e = .returned (.int .u64 (t : Int)) ∧ Below W.heap.size W W') from fun W hW => by rw [ht]; exact reftotal_any L n c l W hl (by omega) ((hr.below hW).more hW.size))
    by_cases ht1000 : 1000 < t
    · have d4 : (1000 : Int) < (t : Int) := by omega
      clear hl hr hm hg hS ht
      go_enter Try.func7, Try.ntmps7
      go_wp2_with fail
      refine HM.out.mono ?_
      rintro e w1 ⟨rfl, hb1⟩
      have HB1 := Lib.hid hb1
      clear hb1
      go_wp2_with fail
      refine (HSM.out w1 HB1.out).mono ?_
      rintro e w2 ⟨rfl, rfl⟩
      go_wp2_with fail
      refine (HT.out w1 HB1.out).mono ?_
      rintro e w2 ⟨rfl, hb2⟩
      have HB2 := Lib.hid (HB1.out.trans (hb2.mono HB1.out.size))
      clear hb2
      go_wp2_with fail
      refine (HAW.out w2).mono ?_
      rintro e w3 ⟨rfl, hb3⟩
      have HB3 := Lib.hid (HB2.out.trans (hb3.mono HB2.out.size))
      clear hb3
      go_wp2
      go_ret
      exact ⟨rfl, HB3.out⟩
    have d4 : ¬ (1000 : Int) < (t : Int) := by omega
    have htn : t = n * S := by rw [ht, total_good hg, hl, hS]
    have hn0 : 0 < n := by omega
    have HBD := Lib.hid (show ∀ W, Below w.heap.size w W → Calls Try.prog 14 #[.slice L n c] W (BuildPost W n l) from fun W hW => build_yes L n c l W hl (by omega) ((hr.below hW).more hW.size) hg)
    have HAR := Lib.hid (fun W (hW : Below w.heap.size w W) => (hr.below hW).more hW.size)
    have HGG := Lib.hid (And.intro hl (And.intro hg (And.intro hS (And.intro ht htn))))
    have HBY := Lib.hid (show i0.bytes * n ≤ 281474976710656 by rw [hz2]; omega)
    have HMX := Lib.hid (show n ≤ maxLen by unfold maxLen; omega)
    have v1 : IntKind.u64.wrap (n : Int) = (n : Int) := IntWalk.u64_in _ (by omega)
    clear hl hr hm hg hS ht htn htl hS31 hS1000
    go_enter Try.func7, Try.ntmps7
    go_wp2_with fail
    refine HM.out.mono ?_
    rintro e w1 ⟨rfl, hb1⟩
    have HB1 := Lib.hid hb1
    clear hb1
    go_wp2_with fail
    refine (HSM.out w1 HB1.out).mono ?_
    rintro e w2 ⟨rfl, rfl⟩
    go_wp2_with fail
    refine (HT.out w1 HB1.out).mono ?_
    rintro e w2 ⟨rfl, hb2⟩
    have HB2 := Lib.hid (HB1.out.trans (hb2.mono HB1.out.size))
    clear hb2
    go_wp2_with fail
    refine (HBD.out w2 HB2.out).mono ?_
    rintro e w3 ⟨a, cT, T, rfl, hta, hT, hb3⟩
    have HB3 := Lib.hid (HB2.out.trans (hb3.mono HB2.out.size))
    have HFT := Lib.hid (show mayT l T = true ∧ T.length = n ∧ (∀ W, Below w3.heap.size w3 W → Cels W W.heap.size (some a) T) from by
      obtain ⟨hl, hg, hS, ht, htn⟩ := HGG.out
      have hce := hT.cels (by omega) (by rw [← hS]; omega) hta
      exact ⟨hT.may hg, hta.len, fun W hW => (hce.below hW).more hW.size⟩)
    clear hta hT hb3 HM HBD HSM
    go_wp2_with (refine wpList_make_full w3 rfl _ _ 41 rfl w3.heap.size 24 i0 _ 1 Try.underlying41 hi0 hz0 hz1 .i64 .i64 _ _ n rfl rfl rfl rfl HBY.out HMX.out (Nat.le_refl _) ?_
                 intro w4 ho4 hg4
                 have HO4 := Lib.hid ho4
                 have HG4 := Lib.hid hg4
                 clear ho4 hg4
                 refine Classical.byContradiction fun hcontra => ?_)
    obtain ⟨aD, haD⟩ : ∃ aD : Addr, aD = ⟨w3.heap.size, 0, none⟩ := ⟨_, rfl⟩
    rw [← haD] at hcontra
    have hb34 : Below w3.heap.size w3 w4 := (Below.refl _ _).grown HG4.out (Nat.le_refl _) (fun k e => by cases e)
    have HB34 := Lib.hid hb34
    have HD4 := Lib.hid (show UAt w4 w3.heap.size aD n n (List.replicate n 0) from by
      have := HO4.out
      rw [made_u64, ← haD] at this
      exact ⟨this⟩)
    clear haD hb34 HO4 HG4
    apply hcontra
    clear hcontra
    go_wp2_with (refine wpList_make_full w4 rfl _ _ 41 rfl w4.heap.size 24 i0 _ 1 Try.underlying41 hi0 hz0 hz1 .i64 .i64 _ _ n rfl rfl rfl rfl HBY.out HMX.out (Nat.le_refl _) ?_
                 intro w5 ho5 hg5
                 have HO5 := Lib.hid ho5
                 have HG5 := Lib.hid hg5
                 clear ho5 hg5
                 refine Classical.byContradiction fun hcontra => ?_)
    obtain ⟨aE, haE⟩ : ∃ aE : Addr, aE = ⟨w4.heap.size, 0, none⟩ := ⟨_, rfl⟩
    rw [← haE] at hcontra
    have hb45 : Below w4.heap.size w4 w5 := (Below.refl _ _).grown HG5.out (Nat.le_refl _) (fun k e => by cases e)
    have HB35 := Lib.hid (HB34.out.trans (hb45.mono HB34.out.size))
    have HD5 := Lib.hid (HD4.out.past hb45)
    have HNE := Lib.hid (show aD.block ≠ aE.block by
      have h1 := (HD4.out.get (i := 0) hn0).2.2.2
      rw [haE]
      show aD.block ≠ w4.heap.size
      omega)
    have HLO := Lib.hid (show w3.heap.size ≤ aE.block by rw [haE]; exact HB34.out.size)
    have HE5 := Lib.hid (show UAt w5 w4.heap.size aE n n (List.replicate n 0) from by
      have := HO5.out
      rw [made_u64, ← haE] at this
      exact ⟨this⟩)
    have HZ := Lib.hid (show ∀ j, j < n → gt (List.replicate n 0) j = 0 from fun j hj => by unfold gt; rw [List.getD_eq_getElem?_getD, List.getElem?_replicate]; split <;> rfl)
    clear haE hb45 HO5 HG5 HD4 HB34
    apply hcontra
    clear hcontra
    go_wp2
    go_loopw [7] (fun iv wr => ∃ (x : Nat) (D E : List Nat), iv = .int .u64 (x : Int) ∧ x ≤ t ∧ Hid (∀ j, j < n → gt D j = metN T S j x) ∧ Hid (∀ j, j < n → gt E j = ivc l j x) ∧ Hid (UAt wr w3.heap.size aD n n D) ∧ Hid (UAt wr w4.heap.size aE n n E) ∧ Hid (Below w3.heap.size w3 wr)) (fun iv _ => t - (intOf iv).toNat)
    case atStart => exact ⟨0, _, _, rfl, Nat.zero_le _, Lib.hid (fun j hj => by rw [HZ.out j hj]; rfl), Lib.hid (fun j hj => by rw [HZ.out j hj, ivc_zero]), HD5, HE5, HB35⟩
    case round =>
      clear HZ HD5 HE5 HB35
      obtain ⟨x, D, E, rfl, hxt, HMT, HMI, HD, HE, HB⟩ := hrel
      have HBw := Lib.hid (HB3.out.trans (HB.out.mono HB3.out.size))
      by_cases hlt : x < t
      · have hlt2 : (x : Int) < (t : Int) := by omega
        obtain ⟨k, k2, hk1, hk2, hk3, hkI, hk4, hk5⟩ : ∃ k k2, k < n ∧ k2 < n ∧ k = toOf T S x ∧ Ivl l x k2 ∧ selB l T x = true ∧ selN l T x = k := by
          obtain ⟨hl, hg, hS, ht, htn⟩ := HGG.out
          have hxn : x < l.length * sumOf l := by rw [hl, ← hS, ← htn]; exact hlt
          obtain ⟨k2, hi⟩ := ivl_of hxn
          have h1 := sel_may (x := x) HFT.out.1 (by rw [← ht]; exact hlt)
          have h2 := (rmp_ivl HFT.out.1 hxn).lt
          rw [hl] at h2
          refine ⟨_, k2, h2, by rw [← hl]; exact hi.lt, by rw [hS], hi, h1.1, h1.2⟩
        have HTW := Lib.hid (HT.out wr HBw.out)
        have HAL := Lib.hid (fun W (hW : Below wr.heap.size wr W) => alias_any L n c l (some a) n cT T x W HGG.out.1 (by omega) HFT.out.2.1 (by omega) (by omega) (HAR.out W (HBw.out.trans (hW.mono HBw.out.size))) (HFT.out.2.2 W (HB.out.trans (hW.mono HB.out.size))))
        rw [hk4, hk5] at HAL
        have HIV := Lib.hid (fun W (hW : Below wr.heap.size wr W) => ivl_yes L n c x k2 l W HGG.out.1 (by omega) HGG.out.2.1 hkI (HAR.out W (HBw.out.trans (hW.mono HBw.out.size))))
        have HK3 := Lib.hid hk3
        have HK4 := Lib.hid hkI
        have e1 : ¬ (n : Int) ≤ (k : Int) := by omega
        have e2 : ¬ (n : Int) ≤ (k2 : Int) := by omega
        have e3 : (k : Int) < (n : Int) := by omega
        have e4 : (k2 : Int) < (n : Int) := by omega
        clear hk3 hkI hk4 hk5
        go_wp2_with fail
        refine HTW.out.mono ?_
        rintro e w6 ⟨rfl, hb6⟩
        have HC6 := Lib.hid hb6
        clear hb6
        go_wp2_with fail
        refine (HAL.out w6 HC6.out).mono ?_
        rintro e w7 ⟨rfl, hb7⟩
        have HC7 := Lib.hid (HC6.out.trans (hb7.mono HC6.out.size))
        clear hb7
        go_wp2_with fail
        refine (HIV.out w7 HC7.out).mono ?_
        rintro e w8 ⟨rfl, hb8⟩
        have HC8 := Lib.hid (HC7.out.trans (hb8.mono HC7.out.size))
        clear hb8 HTW HAL HIV
        have HD8 := Lib.hid (HD.out.past HC8.out)
        have HE8 := Lib.hid (HE.out.past HC8.out)
        have HB8 := Lib.hid (HB.out.trans (HC8.out.mono HB.out.size))
        obtain ⟨r0, f0, lo1, -⟩ := HD8.out.get (i := k) hk1
        obtain ⟨y, hy⟩ : ∃ y, y = gt D k := ⟨_, rfl⟩
        obtain ⟨u, hu⟩ : ∃ u, u = gt E k2 := ⟨_, rfl⟩
        have hyl : y ≤ 1000 := by rw [hy, HMT.out k hk1]; exact Nat.le_trans (metN_le _ _ _ _) (by omega)
        have hul : u ≤ 1000 := by rw [hu, HMI.out k2 hk2]; exact Nat.le_trans (ivc_le _ _ _) (by omega)
        rw [← hy] at r0
        have HD9 := Lib.hid (HD8.out.put hk1 (y + 1))
        have HE9 := Lib.hid (HE8.out.other (p := aD.add k) (by rw [block_add]; exact fun e => HNE.out e.symm) (.int .u64 ((y : Int) + 1)))
        have HB9 := Lib.hid (HB8.out.setCell (p := aD.add k) (by rw [block_add]; exact lo1) (.int .u64 ((y : Int) + 1)))
        obtain ⟨r1, f1, lo2, -⟩ := HE9.out.get (i := k2) hk2
        rw [← hu] at r1
        have HEA := Lib.hid (HE9.out.put hk2 (u + 1))
        have HDA := Lib.hid (HD9.out.other (p := aE.add k2) (by rw [block_add]; exact HNE.out) (.int .u64 ((u : Int) + 1)))
        have HBA := Lib.hid (HB9.out.setCell (p := aE.add k2) (by rw [block_add]; exact HLO.out) (.int .u64 ((u : Int) + 1)))
        have HMT5 := Lib.hid (show ∀ j, j < n → gt (D.set k (y + 1)) j = metN T S j (x + 1) from fun j hj => by
          rw [gt_set (by rw [HD8.out.len]; exact hk1), metN, ← HK3.out]
          by_cases e : j = k
          · subst e; rw [if_pos rfl, if_pos rfl, hy, HMT.out j hj]
          · rw [if_neg e, if_neg (fun e' => e e'.symm), HMT.out j hj, Nat.add_zero])
        have HMI5 := Lib.hid (show ∀ j, j < n → gt (E.set k2 (u + 1)) j = ivc l j (x + 1) from fun j hj => by
          rw [gt_set (by rw [HE8.out.len]; exact hk2), ivc_step HK4.out j]
          by_cases e : j = k2
          · subst e; rw [if_pos rfl, if_pos rfl, hu, HMI.out j hj]
          · rw [if_neg e, if_neg (fun e' => e e'.symm), HMI.out j hj, Nat.add_zero])
        clear hy hu HD8 HE8 HB8 HD9 HE9 HB9
        go_wp2
        go_roundw
        case rel => exact ⟨x + 1, _, _, by go_num, by omega, HMT5, HMI5, HDA, HEA, HBA⟩
        case measure => simp [intOf]; omega
      · have hlt2 : ¬ (x : Int) < (t : Int) := by omega
        have HEQ := Lib.hid (show ∀ j p, l[j]? = some p → j < n → gt D j = n * p.weight ∧ gt E j = n * p.weight from fun j p hp hj => by
          obtain ⟨hl, hg, hS, ht, htn⟩ := HGG.out
          have hxe : x = n * S := by omega
          obtain ⟨-, hlen, hok, hcnt⟩ := mayT_parts HFT.out.1
          refine ⟨?_, ?_⟩
          · rw [HMT.out j hj, hxe, ← hl, ← hlen, hlen, Nat.mul_comm, ← hlen, hS, metN_total (fun c hc => (hok c hc).1), hcnt j p hp, hlen]
          · rw [HMI.out j hj, hxe, ← hl, hS, ivc_all hp])
        have HTW := Lib.hid (HT.out wr HBw.out)
        have hn32 : n * 4294967295 ≤ 30 * 4294967295 := Nat.mul_le_mul_right _ (by omega)
        go_wp2_with fail
        refine HTW.out.mono ?_
        rintro e w6 ⟨rfl, hb6⟩
        have HD6 := Lib.hid (HD.out.past hb6)
        have HE6 := Lib.hid (HE.out.past hb6)
        have HBw6 := Lib.hid (HBw.out.trans (hb6.mono HBw.out.size))
        clear hb6 HTW
        go_wp2
        go_loopw [12] (fun i wz => ∃ j : Nat, j ≤ n ∧ i = .int .i64 j ∧ Hid (Below w6.heap.size w6 wz)) (fun i _ => n - (intOf i).toNat)
        case atStart => exact ⟨0, Nat.zero_le _, rfl, Lib.hid (Below.refl _ _)⟩
        case round =>
          obtain ⟨j, hj, rfl, HB7⟩ := hrel
          have HBW := Lib.hid (HBw6.out.trans (HB7.out.mono HBw6.out.size))
          by_cases hlj : j < n
          · have hlj2 : (j : Int) < (n : Int) := by omega
            obtain ⟨b, p, rfl, hp, hbb, g0, g1, g2, g3⟩ := (HAR.out _ HBW.out).at (k := j) (by rw [HGG.out.1]; exact hlj)
            obtain ⟨r0, -, -, r0l⟩ := (HD6.out.past HB7.out).get (i := j) hlj
            obtain ⟨r1, -, -, r1l⟩ := (HE6.out.past HB7.out).get (i := j) hlj
            obtain ⟨y, hy⟩ : ∃ y, y = n * p.weight := ⟨_, rfl⟩
            rw [(HEQ.out j p hp hlj).1, ← hy] at r0
            rw [(HEQ.out j p hp hlj).2, ← hy] at r1
            have hxi : (n : Int) * (p.weight : Int) = (y : Int) := by rw [hy]; exact (Int.natCast_mul _ _).symm
            have hym : y ≤ 128849018850 := by
              have : n * p.weight ≤ 30 * 4294967295 := Nat.mul_le_mul (by omega) (by omega)
              omega
            have v2 : IntKind.u64.wrap (p.weight : Int) = (p.weight : Int) := IntWalk.u64_in _ (by omega)
            have v3 : IntKind.u64.wrap (y : Int) = (y : Int) := IntWalk.u64_in _ (by omega)
            have d8 : ((y : Int) != (y : Int)) = false := by simp
            clear hp hy
            go_wp2
            go_quiet (fail)
            go_wp2
            go_roundw
            case rel => exact ⟨j + 1, by omega, by go_num, Lib.hid (bdrewN HB7.out _)⟩
            case measure => simp [intOf]; omega
          · have hlj2 : ¬ (j : Int) < (n : Int) := by omega
            go_wp2_with fail
            refine (HAW.out _).mono ?_
            rintro e w9 ⟨rfl, hb9⟩
            have HB9 := Lib.hid (HBW.out.trans (hb9.mono HBW.out.size))
            clear hb9
            go_wp2
            go_ret
            exact ⟨rfl, HB9.out⟩
end Go.Proofs.Ytoflbfkmkalgcaa
