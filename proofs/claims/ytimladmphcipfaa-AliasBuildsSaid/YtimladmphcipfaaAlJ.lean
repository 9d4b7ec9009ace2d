/- The table of neighbours: the document's. -/
import Derived.Test.YtimladmphcipfaaAlH
import Derived.Test.YtimladmphcipfaaAlB
import Derived.OwnWalk
import Derived.RegionTactic
namespace Go.Proofs.Ytimladmphcipfaa
open Go.RowKit Me Va Al

/-- A table in memory of its own. -/
def RBuildPost (w : World) (n : Nat) (l : List ArcD) (e : Ending) (w' : World) : Prop :=
  ∃ a c T, e = .returned (.slice (some a) n c) ∧ TAt w' w.heap.size a n c T ∧ Tabl l T ∧ Below w.heap.size w w'
/-- Rests and cells, as far as they are laid. -/
def RbMid (w : World) (k1 k2 W : Nat) (I : List Nat) (A1 A2 : Option Addr) (c1 c2 : Nat) (wr : World) : Prop :=
  wr.ownsRow w.heap.size 32 1 (.slice A1 k1 c1) k1 (uCells (I.take k1)) ∧ wr.ownsRow w.heap.size 40 2 (.slice A2 k2 c2) k2 (cCells ((beg W I).tab.take k2)) ∧ Apt (.slice A1 k1 c1) (.slice A2 k2 c2) ∧ Below w.heap.size w wr
/-- .. and between the steps. -/
def RbSt (w : World) (n W : Nat) (I : List Nat) (aR aS : Addr) (cR cS : Nat) (s : StD) (wr : World) : Prop :=
  Rch W (beg W I) s ∧ UAt wr w.heap.size aR n cR s.rest ∧ TAt wr w.heap.size aS n cS s.tab ∧ aR.block ≠ aS.block ∧ Below w.heap.size w wr
theorem rb_begin {w wr : World} {n W : Nat} {I : List Nat} {A1 A2 : Option Addr} {c1 c2 : Nat} (hn : 0 < n) (hI : I.length = n) (h : RbMid w n n W I A1 A2 c1 c2 wr) : ∃ aR aS, A1 = some aR ∧ A2 = some aS ∧ RbSt w n W I aR aS c1 c2 (beg W I) wr := by
  obtain ⟨h2, h3, h4, h5⟩ := h
  rw [List.take_of_length_le (by omega)] at h2
  rw [List.take_of_length_le (by rw [beg_len]; omega)] at h3
  obtain ⟨gR, e1, b1, -, -, -, -⟩ := own_putS (v := undef) h2 (i := 0) (by omega)
  obtain ⟨gS, e2, b2, -, -, -, -⟩ := own_putS (v := undef) h3 (i := 0) (by omega)
  subst e1 e2
  exact ⟨_, _, rfl, rfl, .nil _, ⟨h2⟩, ⟨h3⟩, fun e => h4 gR rfl (by show some gS = some gR; rw [show gS = gR from e.symm]), h5⟩
theorem RbMid.below {w wr w' : World} {k1 k2 W : Nat} {I : List Nat} {A1 A2 : Option Addr} {c1 c2 : Nat} (h : RbMid w k1 k2 W I A1 A2 c1 c2 wr) (hb : Below wr.heap.size wr w') : RbMid w k1 k2 W I A1 A2 c1 c2 w' :=
  ⟨own_below' h.1 hb, own_below' h.2.1 hb, h.2.2.1, h.2.2.2.trans (hb.mono h.2.2.2.size)⟩
set_option maxRecDepth 100000 in
set_option maxHeartbeats 4000000 in
theorem refbuild_any (L : Option Addr) (n c : Nat) (l : List ArcD) (w : World) (hl : l.length = n) (hn : n ≤ 1000000) (hr : Arcs w w.heap.size L l) (hg : good l = true) :
    Calls Try.prog 12 #[.slice L n c] w (RBuildPost w n l) := by
  obtain ⟨i0, hi0, hz0, hz1, hz2⟩ := info_parts u64_info
  obtain ⟨i1, hi1, hy0, hy1, hy2⟩ := info_parts cel_info
  have hn0 : 0 < n := by rw [← hl]; exact (good_may hg).1
  have HSUM := Lib.hid (refsum_any L n c l w hl (by omega) hr)
  obtain ⟨I, hI⟩ : ∃ I, I = restsOf l := ⟨_, rfl⟩
  obtain ⟨S, hS⟩ : ∃ S, S = sumOf l := ⟨_, rfl⟩
  have hS31 : S ≤ 2147483647 := by rw [hS]; exact may_sum (good_may hg).2
  have HINV := Lib.hid (show Inv S n I (beg S I) from by rw [hS, hI, ← hl]; exact beg_ok l)
  have HTB := Lib.hid (show ∀ s, Rch S (beg S I) s → Done S s → Tabl l s.tab from fun s h1 h2 => ⟨s, by rw [← hS, ← hI]; exact h1, by rw [← hS]; exact h2, rfl⟩)
  have HIL := Lib.hid (show I.length = n by rw [hI, restsOf_length, hl])
  have HG := Lib.hid (show ∀ (k : Nat) (p : ArcD), l[k]? = some p → I[k]? = some (n * p.weight) from fun k p h => by rw [hI, ← hl]; exact restsOf_get h)
  have HL := Lib.hid hl
  have HR := Lib.hid hr
  rw [← hS] at HSUM
  clear hl hr hI hS hg
  obtain ⟨w1, hw1⟩ : ∃ w1, w1 = (w.alloc (.cells #[] 32)).alloc (.cells #[] 40) := ⟨_, rfl⟩
  obtain ⟨H, hH⟩ : ∃ H, H = w.heap.size := ⟨_, rfl⟩
  have H0 := Lib.hid (show RbMid w 0 0 S I (some ⟨H, 0, none⟩) (some ⟨H + 1, 0, none⟩) 0 0 w1 from by
    have hb0 : Below w.heap.size w (w.alloc (.cells #[] 32)) := (Below.refl _ _).alloc (Nat.le_refl _) _
    have hb1 : Below (w.alloc (.cells #[] 32)).heap.size (w.alloc (.cells #[] 32)) w1 := by rw [hw1]; exact (Below.refl _ _).alloc (Nat.le_refl _) _
    have o1 : (w.alloc (.cells #[] 32)).ownsRow w.heap.size 32 1 (.slice (some ⟨w.heap.size, 0, none⟩) 0 0) 0 [] := ⟨rfl, .inr ⟨w.heap.size, 0, #[], rfl, Nat.le_refl _, heap_alloc_new w _, Nat.le_refl _, by decide, rfl, rfl⟩⟩
    have o2 : w1.ownsRow w.heap.size 40 2 (.slice (some ⟨H + 1, 0, none⟩) 0 0) 0 [] := ⟨rfl, .inr ⟨H + 1, 0, #[], rfl, by omega, by
      have := heap_alloc_new (w.alloc (.cells #[] 32)) (.cells #[] 40)
      rw [World.size_alloc, ← hH, ← hw1] at this
      exact this, Nat.le_refl _, by decide, rfl, rfl⟩⟩
    refine ⟨?_, ?_, ?_, hb0.trans (hb1.mono hb0.size)⟩
    · rw [List.take_zero, hH]; exact own_below' o1 hb1
    · rw [List.take_zero]; exact o2
    · intro b h1 h2
      simp [Value.ownBlock] at h1 h2
      omega)
  have HW1 := Lib.hid hw1
  have HHE := Lib.hid hH
  clear hw1 hH
  have v1 : IntKind.u64.wrap (n : Int) = (n : Int) := IntWalk.u64_in _ (by omega)
  go_enter Try.func12, Try.ntmps12
  go_wp2_with fail
  refine HSUM.out.mono ?_
  rintro e w0 ⟨rfl, rfl⟩
  go_wp2
  rw [← HW1.out, ← HHE.out]
  go_loopw [4, 5, 18] (fun rv tv iv wr => ∃ (k : Nat) (A1 A2 : Option Addr) (c1 c2 : Nat), k ≤ n ∧ rv = .slice A1 k c1 ∧ tv = .slice A2 k c2 ∧ iv = .int .i64 (k : Int) ∧ Hid (RbMid w k k S I A1 A2 c1 c2 wr)) (fun _ _ iv _ => n - (intOf iv).toNat)
  case atStart => exact ⟨0, _, _, 0, 0, Nat.zero_le _, rfl, rfl, rfl, H0⟩
  case round =>
    clear H0 HW1 HHE
    obtain ⟨k, A1, A2, c1, c2, hk, rfl, rfl, rfl, HM⟩ := hrel
    by_cases hlt : k < n
    · have hlt2 : (k : Int) < (n : Int) := by omega
      obtain ⟨ho1, ho2, hap, hbw⟩ := HM.out
      obtain ⟨a, p, rfl, hp, ha, h0, h1, h2, h3⟩ := (HR.out.below hbw).at (k := k) (by rw [HL.out]; exact hlt)
      obtain ⟨x, hx⟩ : ∃ x, x = n * p.weight := ⟨_, rfl⟩
      have hxi : (n : Int) * (p.weight : Int) = (x : Int) := by rw [hx]; exact (Int.natCast_mul _ _).symm
      have hxm : x < 9223372036854775808 := by
        have : n * p.weight ≤ 1000000 * 4294967295 := Nat.mul_le_mul hn (by omega)
        omega
      have v2 : IntKind.u64.wrap (p.weight : Int) = (p.weight : Int) := IntWalk.u64_in _ (by omega)
      have v3 : IntKind.u64.wrap (x : Int) = (x : Int) := IntWalk.u64_in _ (by omega)
      have v4 : IntKind.u32.wrap (k : Int) = (k : Int) := IntWalk.u32_in _ (by omega)
      have HXI := Lib.hid (show I.take (k + 1) = I.take k ++ [x] from by rw [List.take_add_one, HG.out k p hp, hx]; rfl)
      have HTI := Lib.hid (show (beg S I).tab.take (k + 1) = (beg S I).tab.take k ++ [⟨S, k⟩] from by rw [List.take_add_one, beg_tab (by rw [HIL.out]; exact hlt)]; rfl)
      obtain ⟨w4, hw4⟩ : ∃ w4, w4 = wr.alloc (.cells #[.int .u64 (x : Int)] 32) := ⟨_, rfl⟩
      have hb4 : Below wr.heap.size wr w4 := by rw [hw4]; exact (Below.refl _ _).alloc (Nat.le_refl _) _
      have HM4 := Lib.hid (HM.out.below hb4)
      have HC4 := Lib.hid (show ∀ (j : Nat) (u : Value), ([.int .u64 (x : Int)] : List Value)[j]? = some u → w4.cell? ((⟨wr.heap.size, 0, none⟩ : Addr).add j) = some u from fun j u hj => by rw [hw4]; exact one_u64 j u hj)
      have HCE := Lib.hid (show ∀ u ∈ ([.int .u64 (x : Int)] : List Value), u.oneCell' = true from fun u hu => by rw [List.mem_singleton.1 hu]; rfl)
      have HMX := Lib.hid (show k + 1 ≤ maxLen ∧ (k + 1) * 16 ≤ 140737488355328 ∧ (k + 1) * 8 ≤ 140737488355328 by unfold maxLen; omega)
      have HW4 := Lib.hid hw4
      have hbs : w.heap.size ≤ w4.heap.size := by have := hbw.size; have := hb4.size; omega
      clear ho1 ho2 hap hbw hp hx hw4 hb4 HM
      go_wp2_with (at_builtin
                   rw [← HW4.out]
                   go_loud (refine wpList_append_own_at _ rfl (.tmp 21) (.tmp 32) 38 rfl w.heap.size 32 i0 _ 1 8 Try.underlying38 hi0 hz0 hz1 hz2 rfl (by decide) (.slice A1 k c1) k _ rfl HM4.out.1 ⟨wr.heap.size, 0, none⟩ 1 1 [.int .u64 (x : Int)] rfl rfl HC4.out HCE.out HMX.out.1 HMX.out.2.2 hbs ?_)
                   intro v7 w7 ho7 hg7 hnn7 hn7
                   refine Classical.byContradiction fun hcontra => ?_)
      obtain ⟨A7, d7, hv7, -⟩ := own_slice' ho7
      subst hv7
      have HM7 := Lib.hid (show RbMid w (k + 1) k S I A7 A2 d7 c2 w7 from by
        obtain ⟨ho1, ho2, hap, hbw⟩ := HM4.out
        refine ⟨by rw [HXI.out, uCells_append]; exact ho7, ho2.kept hg7 (apt_kept hap), fun b hb e => ?_, hbw.grown hg7 hbw.size (fun j e => (ho1.lt j e).1)⟩
        rcases hn7 with h | h
        · exact hap b (h.symm.trans hb) e
        · rw [h] at hb
          injection hb with hb
          have := (ho2.lt b e).2
          omega)
      have hs7 : w4.heap.size ≤ w7.heap.size := hg7.size
      clear ho7 hg7 hnn7 hn7 HM4 HC4 HCE HW4
      apply hcontra
      clear hcontra
      obtain ⟨w8, hw8⟩ : ∃ w8, w8 = w7.alloc (.cells #[.int .u64 (S : Int), .int .u32 (k : Int)] 40) := ⟨_, rfl⟩
      have hb8 : Below w7.heap.size w7 w8 := by rw [hw8]; exact (Below.refl _ _).alloc (Nat.le_refl _) _
      have HM8 := Lib.hid (HM7.out.below hb8)
      have HC8 := Lib.hid (show ∀ (j : Nat) (u : Value), ([.int .u64 (S : Int), .int .u32 (k : Int)] : List Value)[j]? = some u → w8.cell? ((⟨w7.heap.size, 0, none⟩ : Addr).add j) = some u from fun j u hj => by rw [hw8]; exact two_cel j u hj)
      have HCE := Lib.hid (show ∀ u ∈ ([.int .u64 (S : Int), .int .u32 (k : Int)] : List Value), u.oneCell' = true from fun u hu => by simp at hu; rcases hu with rfl | rfl <;> rfl)
      have HW8 := Lib.hid hw8
      have hbs8 : w.heap.size ≤ w8.heap.size := by have := hb8.size; omega
      clear hw8 hb8 h0 h1
      go_wp2_with (at_builtin
                   rw [← HW8.out]
                   go_loud (refine wpList_append_own_at _ rfl (.tmp 34) (.tmp 39) 24 rfl w.heap.size 40 i1 _ 2 16 Try.underlying24 hi1 hy0 hy1 hy2 rfl (by decide) (.slice A2 k c2) k _ rfl HM8.out.2.1 ⟨w7.heap.size, 0, none⟩ 1 1 [.int .u64 (S : Int), .int .u32 (k : Int)] rfl rfl HC8.out HCE.out HMX.out.1 HMX.out.2.1 hbs8 ?_)
                   intro v9 w9 ho9 hg9 hnn9 hn9
                   refine Classical.byContradiction fun hcontra => ?_)
      obtain ⟨A9, d9, hv9, -⟩ := own_slice' ho9
      subst hv9
      have HM9 := Lib.hid (show RbMid w (k + 1) (k + 1) S I A7 A9 d7 d9 w9 from by
        obtain ⟨ho1, ho2, hap, hbw⟩ := HM8.out
        refine ⟨ho1.kept hg9 (apt_kept fun b hb e => hap b e hb), by rw [HTI.out, cCells_append]; exact ho9, fun b hb e => ?_, hbw.grown hg9 hbw.size (fun j e => (ho2.lt j e).1)⟩
        rcases hn9 with h | h
        · exact hap b hb (h.symm.trans e)
        · rw [h] at e
          injection e with e
          have := (ho1.lt b hb).2
          omega)
      clear ho9 hg9 hnn9 hn9 HM7 HM8 HC8 HCE HW8
      apply hcontra
      clear hcontra
      go_wp2
      go_roundw
      case rel => exact ⟨k + 1, A7, A9, d7, d9, by omega, rfl, rfl, by go_num, HM9⟩
      case measure => simp [intOf]; omega
    · have e : k = n := by omega
      subst e
      obtain ⟨aR, aS, rfl, rfl, hst⟩ := rb_begin hn0 HIL.out HM.out
      have HST := Lib.hid hst
      clear hst HM
      have HIN := Lib.hid (show ∀ s, Rch S (beg S I) s → ∀ j, gt s.rest j < 9223372036854775808 from fun s h j => by
        have h1 := gt_le_sum s.rest j
        rw [(HINV.out.rch h).sum] at h1
        have : S * k ≤ 2147483647 * 1000000 := Nat.mul_le_mul hS31 hn
        omega)
      go_wp2
      go_loopw [7] (fun tv wr => ∃ (t : Nat) (s : StD), tv = .int .i64 (t : Int) ∧ t ≤ k ∧ Hid (RbSt w k S I aR aS c1 c2 s wr) ∧ Hid (loose S s.rest + t ≤ k)) (fun tv _ => k + 1 - (intOf tv).toNat)
      case atStart => exact ⟨0, _, rfl, Nat.zero_le _, HST, Lib.hid (by have := loose_le S (beg S I).rest; have e : (beg S I).rest.length = k := HIL.out; omega)⟩
      case round =>
        clear HST
        obtain ⟨t, s, rfl, htk, HST, HLS⟩ := hrel
        have htk2 : (t : Int) ≤ (k : Int) := by omega
        have HFB := Lib.hid (firstB_any wr w.heap.size aR k c1 S s.rest HST.out.2.1 hn (fun j => by have := HIN.out s HST.out.1 j; omega))
        have HFA := Lib.hid (firstA_any wr w.heap.size aR k c1 S s.rest HST.out.2.1 hn (fun j => by have := HIN.out s HST.out.1 j; omega))
        have HINV2 := Lib.hid (HINV.out.rch HST.out.1)
        go_wp2_with fail
        refine HFB.out.mono ?_
        rintro e w5 ⟨i, q1, rfl, hw5, hq1, hq1'⟩
        rw [hw5]
        clear hw5
        have HQ1 := Lib.hid (And.intro hq1 hq1')
        clear hq1 hq1'
        go_wp2_with fail
        refine HFA.out.mono ?_
        rintro e w6 ⟨j, q2, rfl, hw6, hq2, hq2'⟩
        rw [hw6]
        clear hw6
        have HQ2 := Lib.hid (And.intro hq2 hq2')
        clear hq2 hq2'
        cases q1 with
        | false =>
          have FIN := Lib.hid (HTB.out s HST.out.1 fun x hx => HQ1.out.2 rfl x (by rw [HINV2.out.len] at hx; exact hx))
          have FIN2 := Lib.hid HST.out.2.2
          go_wp2
          go_ret
          exact ⟨aS, c2, s.tab, rfl, FIN2.out.1, FIN.out, FIN2.out.2.2⟩
        | true =>
          have hB := HQ1.out.1 rfl
          have hik : i < k := by have := hB.lt; rw [HINV2.out.len] at this; exact this
          cases q2 with
          | false =>
            exfalso
            obtain ⟨J, hJ⟩ := HINV2.out.rich hik hB.at_
            have := HQ2.out.2 rfl J (by have := hJ.lt; rw [HINV2.out.len] at this; exact this)
            have := hJ.at_
            omega
          | true =>
            have hA := HQ2.out.1 rfl
            have hjk : j < k := by have := hA.lt; rw [HINV2.out.len] at this; exact this
            have HBB := Lib.hid hB
            have HAA := Lib.hid hA
            have hik2 : (i : Int) < (k : Int) := by omega
            have hjk2 : (j : Int) < (k : Int) := by omega
            obtain ⟨y, hy⟩ : ∃ y, y = gt s.rest i := ⟨_, rfl⟩
            obtain ⟨x, hx⟩ : ∃ x, x = gt s.rest j := ⟨_, rfl⟩
            have hyS : y < S := by rw [hy]; exact hB.at_
            have hxS : S < x := by rw [hx]; exact hA.at_
            have hxm : x < 9223372036854775808 := by rw [hx]; exact HIN.out s HST.out.1 j
            obtain ⟨k1, hk1⟩ : ∃ k1, k1 = S - y := ⟨_, rfl⟩
            obtain ⟨z, hz⟩ : ∃ z, z = x - k1 := ⟨_, rfl⟩
            have e1 : (S : Int) - (y : Int) = (k1 : Int) := by omega
            have e2 : (x : Int) - (k1 : Int) = (z : Int) := by omega
            have hk1m : k1 < 9223372036854775808 := by omega
            have hzm : z < 9223372036854775808 := by omega
            have v5 : IntKind.u32.wrap (j : Int) = (j : Int) := IntWalk.u32_in _ (by omega)
            obtain ⟨-, hu, ht, hne, hbw⟩ := HST.out
            obtain ⟨r0, -, lo1, -⟩ := hu.get hik
            obtain ⟨q, -, t0, t1, t2, t3, lo2, -⟩ := ht.get hik
            rw [← hy] at r0
            have t4 : (wr.setCell (aS.add (i * 2)) (.int .u64 (y : Int))).cell? ⟨(aS.add (i * 2)).block, (aS.add (i * 2)).off + 1, none⟩ = some (.int .u32 (q.oth : Int)) := by
              rw [World.cell?_setCell_other _ _ _ _ (fun e => by have := congrArg Addr.off e; simp at this)]
              exact t1
            have HT2 := Lib.hid (ht.put hik ⟨y, j⟩)
            have HU2 := Lib.hid ((hu.other (p := aS.add (i * 2)) (by rw [block_add]; exact hne) (.int .u64 (y : Int))).other (p := fld (aS.add (i * 2))) (by show aR.block ≠ (aS.add (i * 2)).block; rw [block_add]; exact hne) (.int .u32 (j : Int)))
            have HB2 := Lib.hid ((hbw.setCell (p := aS.add (i * 2)) (by rw [block_add]; exact lo2) (.int .u64 (y : Int))).setCell (p := fld (aS.add (i * 2))) (by show w.heap.size ≤ (aS.add (i * 2)).block; rw [block_add]; exact lo2) (.int .u32 (j : Int)))
            have HYX := Lib.hid (And.intro hy hx)
            have HKZ := Lib.hid (show z = x - (S - y) by rw [hz, hk1])
            have HNE := Lib.hid hne
            have HRC := Lib.hid HST.out.1
            have HDN := Lib.hid (upd_loose hB hA)
            clear hu ht hne hbw hy hx hk1 hz hB hA
            go_upto_region 17 with fail
            obtain ⟨W2, hW2⟩ : ∃ X : World, X = (wr.setCell (aS.add (i * 2)) (.int .u64 (y : Int))).setCell (fld (aS.add (i * 2))) (.int .u32 (j : Int)) := ⟨_, rfl⟩
            rw [← hW2] at HT2 HU2 HB2
            rw [← hW2]
            clear hW2 r0 t0 t1 t2 t3 t4
            obtain ⟨r0, -, -, -⟩ := HU2.out.get (i := i) hik
            obtain ⟨r1, f1, -, -⟩ := HU2.out.get (i := j) hjk
            rw [← HYX.out.1] at r0
            rw [← HYX.out.2] at r1
            have HU3 := Lib.hid ((HU2.out.put hjk z).past (Below.refl _ _).drew)
            have HT3 := Lib.hid ((HT2.out.other (p := aR.add j) (by rw [block_add]; exact Ne.symm HNE.out) (.int .u64 (z : Int))).past (Below.refl _ _).drew)
            have HB3 := Lib.hid ((HB2.out.setCell (p := aR.add j) (by rw [block_add]; exact lo1) (.int .u64 (z : Int))).drew)
            clear HU2 HT2 HB2
            go_wp2
            go_region
            obtain ⟨W3, hW3⟩ : ∃ X : World, X = (W2.setCell (aR.add j) (.int .u64 (z : Int))).drew := ⟨_, rfl⟩
            rw [← hW3] at HT3 HU3 HB3
            rw [← hW3]
            clear hW3 r0 r1 f1
            obtain ⟨r0, f0, -, -⟩ := HU3.out.get (i := i) hik
            have HST4 := Lib.hid (show RbSt w k S I aR aS c1 c2 (upd S s i j) (W3.setCell (aR.add i) (.int .u64 (S : Int))) from by
              refine ⟨HRC.out.snoc HBB.out HAA.out, ?_, ?_, HNE.out, HB3.out.setCell (p := aR.add i) (by rw [block_add]; exact lo1) _⟩
              · have h1 := HU3.out.put hik S
                rw [HKZ.out, HYX.out.1, HYX.out.2] at h1
                exact h1
              · have h1 := HT3.out.other (p := aR.add i) (by rw [block_add]; exact Ne.symm HNE.out) (.int .u64 (S : Int))
                rw [HYX.out.1] at h1
                exact h1)
            have HLS4 := Lib.hid (show loose S (upd S s i j).rest + (t + 1) ≤ k from by have := HLS.out; have := HDN.out; omega)
            clear HU3 HT3 HB3 HST
            have htk3 : t + 1 ≤ k := by have := HLS4.out; omega
            go_wp2
            go_roundw
            case rel => exact ⟨t + 1, _, by go_num, htk3, HST4, HLS4⟩
            case measure => simp [intOf]; omega
end Go.Proofs.Ytimladmphcipfaa
