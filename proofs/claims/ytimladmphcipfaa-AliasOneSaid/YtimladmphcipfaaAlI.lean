/- AliasOne's law. -/
import Derived.Test.YtimladmphcipfaaAlO
namespace Go.Proofs.Ytimladmphcipfaa
open Go.RowKit Me Va Al

set_option maxRecDepth 100000 in
set_option maxHeartbeats 4000000 in
theorem aliasOne_law (L : Option Addr) (n c : Nat) (l : List ArcD) (w : World) (hl : l.length = n) (hr : Arcs w w.heap.size L l) :
    Calls Try.prog 5 #[.slice L n c] w fun e w' => e = .returned (.bool true) ∧ Below w.heap.size w w' := by
  obtain ⟨i0, hi0, hz0, hz1, hz2⟩ := info_parts u64_info
  have HAW := Lib.hid awake16_any
  by_cases h100 : 40 < n
  · have h100' : (40 : Int) < (n : Int) := by omega
    clear hl hr
    go_enter Try.func5, Try.ntmps5
    go_wp2_with fail
    refine (HAW.out _).mono ?_
    rintro e w1 ⟨rfl, hb1⟩
    go_wp2
    go_ret
    exact ⟨rfl, hb1⟩
  have h100' : ¬ (40 : Int) < (n : Int) := by omega
  by_cases h0 : n = 0
  · subst h0
    clear hl hr
    go_enter Try.func5, Try.ntmps5
    go_wp2_with fail
    refine (HAW.out _).mono ?_
    rintro e w1 ⟨rfl, hb1⟩
    go_wp2
    go_ret
    exact ⟨rfl, hb1⟩
  have h0' : ((n : Int) == 0) = false := by rw [beq_eq_false_iff_ne]; omega
  have HM := Lib.hid (refmay_any L n c l w hl (by omega) hr)
  obtain ⟨m, hm⟩ : ∃ m, m = may l := ⟨_, rfl⟩
  rw [← hm] at HM
  cases m with
  | false =>
    clear hl hr hm
    go_enter Try.func5, Try.ntmps5
    go_wp2_with fail
    refine HM.out.mono ?_
    rintro e w1 ⟨rfl, hb1⟩
    have HB1 := Lib.hid hb1
    clear hb1
    go_wp2_with fail
    refine (HAW.out _).mono ?_
    rintro e w2 ⟨rfl, hb2⟩
    have HB2 := Lib.hid (HB1.out.trans (hb2.mono HB1.out.size))
    clear hb2
    go_wp2
    go_ret
    exact ⟨rfl, HB2.out⟩
  | true =>
    have hg : good l = true := by unfold good; rw [← hm, hl]; simp; omega
    obtain ⟨S, hS⟩ : ∃ S, S = sumOf l := ⟨_, rfl⟩
    have hS31 : S ≤ 2147483647 := by rw [hS]; exact may_sum hm.symm
    have HBD := Lib.hid (show ∀ W, Below w.heap.size w W → Calls Try.prog 9 #[.slice L n c] W (BuildPost W n l) from fun W hW => build_yes L n c l W hl (by omega) ((hr.below hW).more hW.size) hg)
    have HSM := Lib.hid (show ∀ W, Below w.heap.size w W → Calls Try.prog 16 #[.slice L n c] W (fun e W' => e = .returned (.int .u64 (S : Int)) ∧ W = W') from fun W hW => by rw [hS]; exact refsum_any L n c l W hl (by omega) ((hr.below hW).more hW.size))
    have HSS := Lib.hid hS
    have HL := Lib.hid hl
    have HR := Lib.hid hr
    have v1 : IntKind.u64.wrap (n : Int) = (n : Int) := IntWalk.u64_in _ (by omega)
    have hn0 : 0 < n := by omega
    obtain ⟨M, hM⟩ : ∃ M, M = S * n := ⟨_, rfl⟩
    have hMi : (S : Int) * (n : Int) = (M : Int) := by rw [hM]; exact (Int.natCast_mul _ _).symm
    have hMl : M ≤ 85899345880 := by
      have : S * n ≤ 2147483647 * 40 := Nat.mul_le_mul hS31 (by omega)
      omega
    have HMM := Lib.hid hM
    clear hm hl hr hS hg hM
    by_cases hbig : 2000 < S ∨ 2000 < M
    · have hway : (2000 < S) ∨ (¬ 2000 < S ∧ 2000 < M) := by omega
      clear hbig
      rcases hway with d1 | ⟨d1, d2⟩
      · have d3 : (2000 : Int) < (S : Int) := by omega
        go_enter Try.func5, Try.ntmps5
        go_wp2_with fail
        refine HM.out.mono ?_
        rintro e w1 ⟨rfl, hb1⟩
        have HB1 := Lib.hid hb1
        clear hb1
        go_wp2_with fail
        refine (HSM.out w1 HB1.out).mono ?_
        rintro e w2 ⟨rfl, rfl⟩
        go_wp2_with fail
        refine (HAW.out _).mono ?_
        rintro e w3 ⟨rfl, hb3⟩
        have HB3 := Lib.hid (HB1.out.trans (hb3.mono HB1.out.size))
        clear hb3
        go_wp2
        go_ret
        exact ⟨rfl, HB3.out⟩
      · have d3 : ¬ (2000 : Int) < (S : Int) := by omega
        have d4 : (2000 : Int) < (M : Int) := by omega
        go_enter Try.func5, Try.ntmps5
        go_wp2_with fail
        refine HM.out.mono ?_
        rintro e w1 ⟨rfl, hb1⟩
        have HB1 := Lib.hid hb1
        clear hb1
        go_wp2_with fail
        refine (HSM.out w1 HB1.out).mono ?_
        rintro e w2 ⟨rfl, rfl⟩
        go_wp2_with fail
        refine (HAW.out _).mono ?_
        rintro e w3 ⟨rfl, hb3⟩
        have HB3 := Lib.hid (HB1.out.trans (hb3.mono HB1.out.size))
        clear hb3
        go_wp2
        go_ret
        exact ⟨rfl, HB3.out⟩
    · have hS2 : S ≤ 2000 := by omega
      have hM2 : M ≤ 2000 := by omega
      have d3 : ¬ (2000 : Int) < (S : Int) := by omega
      have d4 : ¬ (2000 : Int) < (M : Int) := by omega
      have HBY := Lib.hid (show i0.bytes * n ≤ 281474976710656 by rw [hz2]; omega)
      have HMX := Lib.hid (show n ≤ maxLen by unfold maxLen; omega)
      have d5 : ((n : Int) != (n : Int)) = false := by simp
      clear hbig hS31 hMl
      go_enter Try.func5, Try.ntmps5
      go_wp2_with fail
      refine HM.out.mono ?_
      rintro e w1 ⟨rfl, hb1⟩
      have HB1 := Lib.hid hb1
      clear hb1
      go_wp2_with fail
      refine (HSM.out w1 HB1.out).mono ?_
      rintro e w2 ⟨rfl, rfl⟩
      go_wp2_with fail
      refine (HBD.out w1 HB1.out).mono ?_
      rintro e w2 ⟨a, cT, T, rfl, ht, hT, hb2⟩
      have HB2 := Lib.hid (HB1.out.trans (hb2.mono HB1.out.size))
      have HCE := Lib.hid (hT.cels (by rw [HL.out]; omega) (by rw [← HSS.out]; omega) ht)
      have HTL := Lib.hid ht.len
      have HTB := Lib.hid hT
      clear ht hT hb2 HM HBD HSM
      go_wp2_with (refine wpList_make_full w2 rfl _ _ 38 rfl w2.heap.size 32 i0 _ 1 Try.underlying38 hi0 hz0 hz1 .i64 .i64 _ _ n rfl rfl rfl rfl HBY.out HMX.out (Nat.le_refl _) ?_
                   intro w3 ho3 hg3
                   have HO3 := Lib.hid ho3
                   have HG3 := Lib.hid hg3
                   clear ho3 hg3)
      obtain ⟨aD, haD⟩ : ∃ aD : Addr, aD = ⟨w2.heap.size, 0, none⟩ := ⟨_, rfl⟩
      rw [← haD]
      have hb23 : Below w2.heap.size w2 w3 := (Below.refl _ _).grown HG3.out (Nat.le_refl _) (fun k e => by cases e)
      have HD0 := Lib.hid (show UAt w3 w2.heap.size aD n n (List.replicate n 0) from by
        have := HO3.out
        rw [made_u64, ← haD] at this
        exact ⟨this⟩)
      have HZ := Lib.hid (show ∀ j, j < n → gt (List.replicate n 0) j = metN T S j 0 from fun j hj => by
        have : gt (List.replicate n 0) j = 0 := by unfold gt; rw [List.getD_eq_getElem?_getD, List.getElem?_replicate]; split <;> rfl
        rw [this]; rfl)
      have HB23 := Lib.hid hb23
      have HOK := Lib.hid (show ∀ (q : Nat) (x : CelD), T[q]? = some x → x.cut ≤ S ∧ x.oth < n from fun q x hx => by
        have := HTB.out.ok x (List.mem_of_getElem? hx)
        rw [← HSS.out, HL.out] at this
        exact this)
      clear haD hb23 HO3 HG3
      go_loopw [8] (fun iv wr => ∃ (x : Nat) (D : List Nat), iv = .int .u64 (x : Int) ∧ x ≤ M ∧ Hid (∀ j, j < n → gt D j = metN T S j x) ∧ Hid (UAt wr w2.heap.size aD n n D) ∧ Hid (Below w2.heap.size w2 wr)) (fun iv _ => M - (intOf iv).toNat)
      case atStart => exact ⟨0, _, rfl, Nat.zero_le _, HZ, HD0, HB23⟩
      case round =>
        clear HZ HD0 HB23
        obtain ⟨x, D, rfl, hxM, HMT, HD, HB⟩ := hrel
        by_cases hlt : x < M
        · have hlt2 : (x : Int) < (M : Int) := by omega
          have hS0 : 0 < S := by
            rcases Nat.eq_zero_or_pos S with e | e
            · have := HMM.out
              rw [e, Nat.zero_mul] at this
              omega
            · exact e
          obtain ⟨q, hq⟩ : ∃ q, q = x / S := ⟨_, rfl⟩
          have hqn : q < n := by rw [hq]; exact Nat.div_lt_of_lt_mul (by rw [← HMM.out]; exact hlt)
          have e1 : Int.tdiv (x : Int) (S : Int) = (q : Int) := by rw [hq]; exact (Int.ofNat_tdiv x S).symm
          obtain ⟨b, p, eb, hp, hbb, g0, g1, g2, g3⟩ := ((HCE.out.below HB.out).more HB.out.size).at (k := q) (by rw [HTL.out]; exact hqn)
          injection eb with eb
          subst eb
          have hok := HOK.out q p hp
          have hpc := hok.1
          have hpo := hok.2
          have d6 : ¬ (S : Int) < (p.cut : Int) := by omega
          have d7 : ¬ (n : Int) ≤ (p.oth : Int) := by omega
          have v2 : IntKind.u64.wrap (p.oth : Int) = (p.oth : Int) := IntWalk.u64_in _ (by omega)
          have hS1 : ¬ (S : Int) = 0 := by omega
          have hS3 : ¬ S = 0 := by omega
          have hqn2 : (q : Int) < (n : Int) := by omega
          obtain ⟨t, htt⟩ : ∃ t, t = toOf T S x := ⟨_, rfl⟩
          have htn : t < n := by
            rw [htt]; unfold toOf; rw [← hq, hp]
            dsimp only
            split
            · exact hqn
            · exact hpo
          have HTO := Lib.hid (to_any (some a) n cT T S x wr HTL.out (by omega) hS0 hS2 (by omega) (by rw [← hq]; exact hqn) ((HCE.out.below HB.out).more HB.out.size))
          rw [← htt] at HTO
          have htn2 : (t : Int) < (n : Int) := by omega
          have HTT := Lib.hid htt
          clear hq hp hok htt
          go_wp2_with fail
          refine HTO.out.mono ?_
          rintro e w4 ⟨rfl, hb4⟩
          have HD4 := Lib.hid (HD.out.past hb4)
          have HB4 := Lib.hid (HB.out.trans (hb4.mono HB.out.size))
          clear hb4 g0 g1
          obtain ⟨r0, f0, lo1, -⟩ := HD4.out.get (i := t) htn
          obtain ⟨y, hy⟩ : ∃ y, y = gt D t := ⟨_, rfl⟩
          have hyl : y ≤ 2000 := by rw [hy, HMT.out t htn]; exact Nat.le_trans (metN_le _ _ _ _) (by omega)
          rw [← hy] at r0
          have HD5 := Lib.hid (HD4.out.put htn (y + 1))
          have HB5 := Lib.hid (HB4.out.setCell (p := aD.add t) (by rw [block_add]; exact lo1) (.int .u64 ((y + 1 : Nat) : Int)))
          have HMT5 := Lib.hid (show ∀ j, j < n → gt (D.set t (y + 1)) j = metN T S j (x + 1) from fun j hj => by
            rw [gt_set (by rw [HD4.out.len]; exact htn), metN, ← HTT.out]
            by_cases e : j = t
            · subst e; rw [if_pos rfl, if_pos rfl, hy, HMT.out j hj]
            · rw [if_neg e, if_neg (fun e' => e e'.symm), HMT.out j hj, Nat.add_zero])
          clear hy HD4 HB4
          go_wp2
          go_roundw
          case rel => exact ⟨x + 1, _, by go_num, by omega, HMT5, HD5, HB5⟩
          case measure => simp [intOf]; omega
        · have e : x = M := by omega
          subst e
          have HEQ := Lib.hid (show ∀ j, j < n → gt D j = Al.cnt S j T from fun j hj => by
            rw [HMT.out j hj, HMM.out]
            have h1 := metN_all (T := T) (S := S) (k := j) (fun x hx => by have := HTB.out.ok x hx; rw [← HSS.out] at this; exact this.1) n (by rw [HTL.out]; exact Nat.le_refl _)
            rw [List.take_of_length_le (by rw [HTL.out]; exact Nat.le_refl _)] at h1
            exact h1)
          obtain ⟨w3b, hw3b⟩ : ∃ X, X = wr := ⟨_, rfl⟩
          subst hw3b
          go_wp2
          go_loopw [10] (fun i w6 => ∃ j : Nat, j ≤ n ∧ i = .int .i64 j ∧ Hid (Below w3b.heap.size w3b w6)) (fun i _ => n - (intOf i).toNat)
          case atStart => exact ⟨0, Nat.zero_le _, rfl, Lib.hid (Below.refl _ _)⟩
          case round =>
            obtain ⟨j, hj, rfl, HB6⟩ := hrel
            have HBW := Lib.hid (HB2.out.trans ((HB.out.trans (HB6.out.mono HB.out.size)).mono HB2.out.size))
            by_cases hlj : j < n
            · have hlj2 : (j : Int) < (n : Int) := by omega
              obtain ⟨b, p, rfl, hp, hbb, g0, g1, g2, g3⟩ := (HR.out.below HBW.out).at (k := j) (by rw [HL.out]; exact hlj)
              obtain ⟨r0, -, -, -⟩ := (HD.out.past HB6.out).get (i := j) hlj
              obtain ⟨y, hy⟩ : ∃ y, y = gt D j := ⟨_, rfl⟩
              rw [← hy] at r0
              have hxi : (n : Int) * (p.weight : Int) = (y : Int) := by
                have h1 : y = n * p.weight := by rw [hy, HEQ.out j hlj, HSS.out, HTB.out.cnt hp, HL.out]
                rw [h1]; exact (Int.natCast_mul _ _).symm
              have hym : y ≤ 2000 := by rw [hy, HMT.out j hlj]; exact Nat.le_trans (metN_le _ _ _ _) hM2
              have v2 : IntKind.u64.wrap (p.weight : Int) = (p.weight : Int) := IntWalk.u64_in _ (by omega)
              have v3 : IntKind.u64.wrap (y : Int) = (y : Int) := IntWalk.u64_in _ (by omega)
              have d8 : ((y : Int) != (y : Int)) = false := by simp
              clear hp hy
              go_wp2
              go_region
              go_wp2
              go_roundw
              case rel => exact ⟨j + 1, by omega, by go_num, Lib.hid (HB6.out.drew)⟩
              case measure => simp [intOf]; omega
            · go_wp2_with fail
              refine (HAW.out _).mono ?_
              rintro e w7 ⟨rfl, hb7⟩
              have HB7 := Lib.hid (HBW.out.trans (hb7.mono HBW.out.size))
              clear hb7
              go_wp2
              go_ret
              exact ⟨rfl, HB7.out⟩
end Go.Proofs.Ytimladmphcipfaa
