/- AliasCounts's law. -/
import Derived.Test.YtimladmphcipfaaAlC
import Derived.Test.YtimladmphcipfaaAlW
namespace Go.Proofs.Ytimladmphcipfaa
open Go.RowKit Me Va Al

theorem Tabl.cels {w : World} {base n c : Nat} {a : Addr} {l : List ArcD} {T : List CelD} (h : Tabl l T) (hn : l.length ≤ 4294967296) (hs : sumOf l < 18446744073709551616) (ht : TAt w base a n c T) : Cels w w.heap.size (some a) T :=
  ⟨Cs.of_own ht.own, fun x hx => by have := h.ok x hx; omega⟩
theorem cntZ_nat (w k : Nat) (T : List CelD) : cntZ w (k : Int) T = Al.cnt w k T := by unfold cntZ; rw [if_pos (by omega)]; rfl
set_option maxRecDepth 100000 in
set_option maxHeartbeats 4000000 in
theorem aliasCounts_law (L : Option Addr) (n c : Nat) (l : List ArcD) (w : World) (hl : l.length = n) (hr : Arcs w w.heap.size L l) :
    Calls Try.prog 4 #[.slice L n c] w fun e w' => e = .returned (.bool true) ∧ Below w.heap.size w w' := by
  have HAW := Lib.hid awake16_any
  by_cases h100 : 100 < n
  · have h100' : (100 : Int) < (n : Int) := by omega
    clear hl hr
    go_enter Try.func4, Try.ntmps4
    go_wp2_with fail
    refine (HAW.out _).mono ?_
    rintro e w1 ⟨rfl, hb1⟩
    go_wp2
    go_ret
    exact ⟨rfl, hb1⟩
  have h100' : ¬ (100 : Int) < (n : Int) := by omega
  by_cases h0 : n = 0
  · subst h0
    clear hl hr
    go_enter Try.func4, Try.ntmps4
    go_wp2_with fail
    refine (HAW.out _).mono ?_
    rintro e w1 ⟨rfl, hb1⟩
    go_wp2
    go_ret
    exact ⟨rfl, hb1⟩
  have h0' : ((n : Int) == 0) = false := by rw [beq_eq_false_iff_ne]; omega
  have HM := Lib.hid (refmay_any L n c l w hl (by omega) hr)
  obtain ⟨m, hm⟩ : ∃ m, m = may l := ⟨_, rfl⟩
  rw [← hm] at HM
  cases m with
  | false =>
    clear hl hr hm
    go_enter Try.func4, Try.ntmps4
    go_wp2_with fail
    refine HM.out.mono ?_
    rintro e w1 ⟨rfl, hb1⟩
    have HB1 := Lib.hid hb1
    clear hb1
    go_wp2_with fail
    refine (HAW.out _).mono ?_
    rintro e w2 ⟨rfl, hb2⟩
    have HB2 := Lib.hid (HB1.out.trans (hb2.mono HB1.out.size))
    clear hb2
    go_wp2
    go_ret
    exact ⟨rfl, HB2.out⟩
  | true =>
    have hg : good l = true := by unfold good; rw [← hm, hl]; simp; omega
    obtain ⟨S, hS⟩ : ∃ S, S = sumOf l := ⟨_, rfl⟩
    have hS31 : S ≤ 2147483647 := by rw [hS]; exact may_sum hm.symm
    have HBD := Lib.hid (show ∀ W, Below w.heap.size w W → Calls Try.prog 9 #[.slice L n c] W (BuildPost W n l) from fun W hW => build_yes L n c l W hl (by omega) ((hr.below hW).more hW.size) hg)
    have HSM := Lib.hid (show ∀ W, Below w.heap.size w W → Calls Try.prog 16 #[.slice L n c] W (fun e W' => e = .returned (.int .u64 (S : Int)) ∧ W = W') from fun W hW => by rw [hS]; exact refsum_any L n c l W hl (by omega) ((hr.below hW).more hW.size))
    have HSS := Lib.hid hS
    have HL := Lib.hid hl
    have HR := Lib.hid hr
    clear hm hl hr hS hg
    go_enter Try.func4, Try.ntmps4
    go_wp2_with fail
    refine HM.out.mono ?_
    rintro e w1 ⟨rfl, hb1⟩
    have HB1 := Lib.hid hb1
    clear hb1
    go_wp2_with fail
    refine (HBD.out w1 HB1.out).mono ?_
    rintro e w2 ⟨a, cT, T, rfl, ht, hT, hb2⟩
    have HB2 := Lib.hid (HB1.out.trans (hb2.mono HB1.out.size))
    have HCE := Lib.hid (hT.cels (by rw [HL.out]; omega) (by rw [← HSS.out]; omega) ht)
    have HTL := Lib.hid ht.len
    have HTB := Lib.hid hT
    clear ht hT hb2
    go_wp2_with fail
    refine (HSM.out w2 HB2.out).mono ?_
    rintro e w3 ⟨rfl, rfl⟩
    have v1 : IntKind.u64.wrap (n : Int) = (n : Int) := IntWalk.u64_in _ (by omega)
    go_wp2
    go_loopw [7, 8] (fun x i wr => ∃ k y : Nat, k ≤ n ∧ i = .int .i64 k ∧ x = .int .u64 (y : Int) ∧ Hid (y = n * sumOf (l.take k)) ∧ Hid (Below w2.heap.size w2 wr)) (fun _ i _ => n - (intOf i).toNat)
    case atStart => exact ⟨0, 0, Nat.zero_le _, rfl, rfl, Lib.hid rfl, Lib.hid (Below.refl _ _)⟩
    case round =>
      obtain ⟨k, y, hk, rfl, rfl, HE, HB⟩ := hrel
      by_cases hlt : k < n
      · have hlt' : k < l.length := by rw [HL.out]; exact hlt
        have hlt2 : (k : Int) < (n : Int) := by omega
        obtain ⟨b, p, rfl, hp, ha, -, h1, h2, h3⟩ := (HR.out.below (HB2.out.trans (HB.out.mono HB2.out.size))).at hlt'
        obtain ⟨x, hx⟩ : ∃ x, x = n * p.weight := ⟨_, rfl⟩
        have hxi : (n : Int) * (p.weight : Int) = (x : Int) := by rw [hx]; exact (Int.natCast_mul _ _).symm
        have hxm : x < 429496729600 := by
          have : n * p.weight ≤ 100 * 4294967295 := Nat.mul_le_mul (by omega) (by omega)
          omega
        have hcn : wr64 (cntZ S (k : Int) T) = x := by
          rw [cntZ_nat, HSS.out, HTB.out.cnt hp, HL.out, ← hx]
          exact wr64_id (by omega)
        have HCN := Lib.hid (count_any (some a) n cT T S (k : Int) wr HTL.out (by omega) (by omega) ((HCE.out.below HB.out).more HB.out.size) (by omega))
        rw [hcn] at HCN
        obtain ⟨y2, hy2⟩ : ∃ y2, y2 = n * sumOf (l.take (k + 1)) := ⟨_, rfl⟩
        have hy2' : (y : Int) + (x : Int) = (y2 : Int) := by
          have : y2 = y + x := by rw [hy2, sumOf_take hp, Nat.mul_add, HE.out, hx]
          omega
        have hy2l : y2 ≤ 214748364700 := by
          have h4 := sumOf_take_le l (k + 1)
          rw [← HSS.out] at h4
          have : n * sumOf (l.take (k + 1)) ≤ 100 * 2147483647 := Nat.mul_le_mul (by omega) (by omega)
          omega
        have hbb : b.block < wr.heap.size := by have := HB2.out.size; have := HB.out.size; omega
        have HY2 := Lib.hid hy2
        have HCF := Lib.hid (show ∀ W2, Below wr.heap.size wr W2 → W2.cell? ⟨(b.add (k * 2)).block, (b.add (k * 2)).off + 1, none⟩ = some (.int .u32 (p.weight : Int)) from fun W2 hW => (hW.cell (p := ⟨(b.add (k * 2)).block, (b.add (k * 2)).off + 1, none⟩) (by show (b.add (k * 2)).block < _; rw [block_add]; exact hbb)).trans h1)
        clear hp hlt' hx hcn hy2 h1
        go_wp2_with fail
        refine HCN.out.mono ?_
        rintro e w4 ⟨rfl, hb4⟩
        have g1 := HCF.out w4 hb4
        have HB4 := Lib.hid (HB.out.trans (hb4.mono HB.out.size))
        clear hb4
        go_wp2
        go_roundw
        case rel => exact ⟨k + 1, y2, by omega, by go_num, rfl, HY2, HB4⟩
        case measure => simp [intOf]; omega
      · have e : k = n := by omega
        subst e
        have hy : y = k * S := by rw [HE.out, HSS.out, List.take_of_length_le (by rw [HL.out]; exact Nat.le_refl _)]
        have hyl : y ≤ 214748364700 := by
          have : k * S ≤ 100 * 2147483647 := Nat.mul_le_mul (by omega) hS31
          omega
        have hyi : (S : Int) * (k : Int) = (y : Int) := by rw [hy, Nat.mul_comm]; exact (Int.natCast_mul _ _).symm
        clear hy
        go_wp2_with fail
        refine (HAW.out _).mono ?_
        rintro e w4 ⟨rfl, hb4⟩
        have HB4 := Lib.hid (HB2.out.trans ((HB.out.trans (hb4.mono HB.out.size)).mono HB2.out.size))
        clear hb4
        go_wp2
        go_ret
        exact ⟨rfl, HB4.out⟩
end Go.Proofs.Ytimladmphcipfaa
