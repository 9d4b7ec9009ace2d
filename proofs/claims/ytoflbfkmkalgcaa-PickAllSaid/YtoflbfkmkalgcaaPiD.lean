/- The segments of a neighbour: the iterator. -/
import Derived.Test.YtoflbfkmkalgcaaPiC
import Derived.Test.YtoflbfkmkalgcaaRgO
import Derived.Test.YtoflbfkmkalgcaaScI
import Derived.Shelf.Abstract
import Derived.Shelf.RegionOpen
import Derived.OwnWalkIn
import Derived.TacticsInMore
import Derived.LoopNIn
import Derived.LoopIn
import Derived.WalkKit
namespace Go.Proofs.Ytoflbfkmkalgcaa
open Go.RowKit Me Va Al

theorem callsIn_wide_any {n m : Nat} {P : Program} {f : FuncId} {args : Array Value} {w : World} {R : Ending → World → Prop} (h : CallsIn Fence.wide n P f args w R) : CallsIn Fence.wide m P f args w R := callsIn_wide.2 (callsIn_wide.1 h)
/-- A segment as it is handed on. -/
def encS (s : SgD) : Array Value := #[.agg #[.int .u64 (s.draw : Int), .int .u64 (s.num : Int), .int .u64 (s.size : Int)]]
/-- What the iterator reads. -/
def MemS (H G : Nat) (A : Option Addr) (q : Nat) : Prop := q = H ∨ q = H + 1 ∨ q = H + 2 ∨ q = G ∨ ∃ a : Addr, A = some a ∧ q = a.block
set_option maxRecDepth 100000 in
theorem segments_any (L : Option Addr) (n c : Nat) (l : List ArcD) (A : Option Addr) (m cT k : Nat) (w : World) (hl : l.length = n) (hn : n ≤ 1000000) (hr : Arcs w w.heap.size L l) :
    Calls Try.prog 22 #[.slice L n c, .slice A m cT, .int .i64 (k : Int)] w fun e w' => ∃ G, e = .returned (.func (.func 36) #[] #[.pointer (some ⟨w.heap.size, 0, none⟩), .pointer (some ⟨w.heap.size + 2, 0, none⟩), .pointer (some ⟨w.heap.size + 1, 0, none⟩), .pointer (some ⟨G, 0, none⟩)]) ∧
      w.heap.size + 3 ≤ G ∧ Below w.heap.size w w' ∧ Blk w' w.heap.size [.slice L n c] ∧ Blk w' (w.heap.size + 1) [.slice A m cT] ∧ Blk w' (w.heap.size + 2) [.int .i64 (k : Int)] ∧ Blk w' G [.int .u64 (sumOf l : Int)] := by
  obtain ⟨H, hH⟩ : ∃ H, H = w.heap.size := ⟨_, rfl⟩
  obtain ⟨w1, hw1⟩ : ∃ w1, w1 = ((w.alloc (.cells #[.slice L n c] 22)).alloc (.cells #[.slice A m cT] 23)).alloc (.cells #[.int .i64 (k : Int)] 3) := ⟨_, rfl⟩
  have hb1 : Below w.heap.size w w1 := by rw [hw1]; exact (((Below.refl _ w).alloc (Nat.le_refl _) _).alloc (by simp) _).alloc (by simp; omega) _
  have hz : w1.heap.size = H + 3 := by rw [hw1, hH]; simp
  have hB1 : Blk w1 H [.slice L n c] := by rw [hw1, hH]; exact ((Blk.new w [.slice L n c] _).alloc _).alloc _
  have hB2 : Blk w1 (H + 1) [.slice A m cT] := by rw [hw1, hH]; exact (Blk.new' (w.alloc _) [.slice A m cT] _ (by simp)).alloc _
  have hB3 : Blk w1 (H + 2) [.int .i64 (k : Int)] := by rw [hw1, hH]; exact Blk.new' ((w.alloc _).alloc _) [.int .i64 (k : Int)] _ (by simp)
  have HSM := Lib.hid (sum_any L n c l w1 hl (by omega) ((hr.below hb1).more hb1.size))
  obtain ⟨S, hS⟩ : ∃ S, S = sumOf l := ⟨_, rfl⟩
  rw [← hS] at HSM ⊢
  have HH := Lib.hid hH
  have HW := Lib.hid hw1
  have HB := Lib.hid hb1
  have K1 := Lib.hid hB1
  have K2 := Lib.hid hB2
  have K3 := Lib.hid hB3
  have HZ := Lib.hid hz
  clear hH hw1 hb1 hB1 hB2 hB3 hz hr hl hS
  go_enter Try.func22, Try.ntmps22
  go_wp2_with fail
  rw [← HW.out]
  refine HSM.out.mono ?_
  rintro e w2 ⟨rfl, hb2⟩
  have HB2 := Lib.hid hb2
  have FIN := Lib.hid (show w.heap.size + 3 ≤ w2.heap.size ∧ Below w.heap.size w (w2.alloc (.cells #[.int .u64 (S : Int)] 24)) ∧ Blk (w2.alloc (.cells #[.int .u64 (S : Int)] 24)) w.heap.size [.slice L n c] ∧ Blk (w2.alloc (.cells #[.int .u64 (S : Int)] 24)) (w.heap.size + 1) [.slice A m cT] ∧ Blk (w2.alloc (.cells #[.int .u64 (S : Int)] 24)) (w.heap.size + 2) [.int .i64 (k : Int)] ∧ Blk (w2.alloc (.cells #[.int .u64 (S : Int)] 24)) w2.heap.size [.int .u64 (S : Int)] from by
    have hb3 : Below w.heap.size w w2 := HB.out.trans (HB2.out.mono HB.out.size)
    rw [← HH.out]
    refine ⟨by rw [← HZ.out]; exact HB2.out.size, by rw [HH.out]; exact hb3.alloc hb3.size _, (K1.out.past HB2.out).alloc _, (K2.out.past HB2.out).alloc _, (K3.out.past HB2.out).alloc _, Blk.new w2 [.int .u64 (S : Int)] _⟩)
  clear hb2
  go_wp2
  go_ret
  exact ⟨w2.heap.size, rfl, FIN.out⟩
theorem ret_agg3 {a b c a' b' c' : Int} (h1 : a = a') (h2 : b = b') (h3 : c = c') : Value.agg #[.int .u64 a, .int .u64 b, .int .u64 c] = Value.agg #[.int .u64 a', .int .u64 b', .int .u64 c'] := by rw [h1, h2, h3]

attribute [local go_sem] Oper.semAt_some
set_option maxRecDepth 100000 in
set_option maxHeartbeats 4000000 in
theorem seg_gives (H G : Nat) (L : Option Addr) (n c : Nat) (l : List ArcD) (A : Option Addr) (cT : Nat) (T : List CelD) (k : Nat) (w : World) (hl : l.length = n) (hn : n ≤ 1000000) (hc0 : n ≤ c) (hk : k < n) (hm : mayT l T = true)
    (hr : Arcs w w.heap.size L l) (hc : Cels w w.heap.size A T)
    (hB1 : Blk w H [.slice L n c]) (hB2 : Blk w (H + 1) [.slice A n cT]) (hB3 : Blk w (H + 2) [.int .i64 (k : Int)]) (hB4 : Blk w G [.int .u64 (sumOf l : Int)]) :
    Ro.Gives Try.prog 36 #[.pointer (some ⟨H, 0, none⟩), .pointer (some ⟨H + 2, 0, none⟩), .pointer (some ⟨H + 1, 0, none⟩), .pointer (some ⟨G, 0, none⟩)] encS (segsOf l T k) (MemS H G A) w := fun nn l' S J Jx W hW hS hJ hJx hY hj0 => by
  obtain ⟨hg, hlen, hok, hcnt⟩ := mayT_parts hm
  have hS31 := may_sum (good_may hg).2
  have HBD := Lib.hid (segs_bound (k := k) hm)
  have hst := strt_le l k
  have htot : l.length * sumOf l ≤ 2147483647000000 := by
    have : l.length * sumOf l ≤ 1000000 * 2147483647 := Nat.mul_le_mul (by omega) hS31
    omega
  refine callsIn_wide_any (n := 2) ?_
  obtain ⟨N, hN⟩ : ∃ N, N = W.heap.size := ⟨_, rfl⟩
  have bx : ∀ {b : Nat} {v : Value}, Blk w b [v] → (∀ q, q = b → MemS H G A q) → (W.cell? ⟨b, 0, none⟩ = some v ∧ b < N) ∧ ∀ W', Out S W W' → W'.cell? ⟨b, 0, none⟩ = some v ∧ b < W'.heap.size := by
    intro b v h hM
    have h1 := h.past hW
    refine ⟨⟨h1.cell (i := 0) rfl, by rw [hN]; exact h1.lt⟩, fun W' ho => ?_⟩
    have h2 := h1.out ho (fun e => (hS _ e).2 (hM _ rfl))
    exact ⟨h2.cell (i := 0) rfl, h2.lt⟩
  obtain ⟨⟨a1, b1⟩, -⟩ := bx hB1 (fun q e => .inl e)
  obtain ⟨⟨a2, b2⟩, K2⟩ := bx hB2 (fun q e => .inr (.inl e))
  obtain ⟨⟨a3, b3⟩, K3⟩ := bx hB3 (fun q e => .inr (.inr (.inl e)))
  obtain ⟨⟨a4, b4⟩, K4⟩ := bx hB4 (fun q e => .inr (.inr (.inr (.inl e))))
  have KC := Lib.hid (fun (W' : World) (ho : Out S W W') (i : Nat) (hi : i < n) => show ∃ a x, A = some a ∧ T[i]? = some x ∧ a.block < W'.heap.size ∧ W'.cell? (a.add (i * 2)) = some (.int .u64 (x.cut : Int)) ∧ W'.cell? ⟨(a.add (i * 2)).block, (a.add (i * 2)).off + 1, none⟩ = some (.int .u32 (x.oth : Int)) ∧ x.cut ≤ sumOf l ∧ x.oth < l.length from by
    obtain ⟨a, x, e, hx, h0, h1, h2, h3, h4⟩ := ((hc.below hW).more hW.size).at (k := i) (by rw [hlen, hl]; exact hi)
    have hnS : ¬ S a.block := fun hs => (hS _ hs).2 (.inr (.inr (.inr (.inr ⟨a, e, rfl⟩))))
    have h5 := hok x (List.mem_of_getElem? hx)
    refine ⟨a, x, e, hx, Nat.lt_of_lt_of_le h0 ho.size, ?_, ?_, h5.1, h5.2⟩
    · exact (ho.cell (p := a.add (i * 2)) (by rw [block_add]; exact h0) (by rw [block_add]; exact hnS)).trans h1
    · exact (ho.cell (p := ⟨(a.add (i * 2)).block, (a.add (i * 2)).off + 1, none⟩) (by show (a.add (i * 2)).block < _; rw [block_add]; exact h0) (by show ¬ S (a.add (i * 2)).block; rw [block_add]; exact hnS)).trans h2)
  have HSA := Lib.hid (start_any L n c k l W hl hn hc0 (by omega) hS31 ((hr.below hW).more hW.size))
  obtain ⟨SS, hSS⟩ : ∃ SS, SS = sumOf l := ⟨_, rfl⟩
  obtain ⟨m0, hm0⟩ : ∃ m0, m0 = strt l k := ⟨_, rfl⟩
  rw [← hm0] at HSA
  obtain ⟨Xs, hXs⟩ : ∃ Xs, Xs = segsOf l T k := ⟨_, rfl⟩
  obtain ⟨PP, hPP⟩ : ∃ PP, PP = prts SS 0 T := ⟨_, rfl⟩
  have HP0 := Lib.hid (show Xs = [] ++ sgs k m0 (PP.drop (0 * 2)) by rw [hXs, hPP, hm0, hSS]; simp [segsOf])
  have HPE := Lib.hid (show PP.drop (n * 2) = [] by
    rw [hPP, prts_drop, List.drop_eq_nil_of_le (by rw [hlen, hl]; exact Nat.le_refl _)]
    rfl)
  have HPD := Lib.hid (fun (i : Nat) (x : CelD) (hx : T[i]? = some x) => show PP.drop (i * 2) = ⟨i, i * SS, x.cut⟩ :: ⟨x.oth, i * SS + x.cut, SS - x.cut⟩ :: PP.drop ((i + 1) * 2) by rw [hPP]; exact prts_at hx)
  rw [← hXs] at hY HBD ⊢
  rw [← hSS] at a4 K4 hS31 htot
  rw [hl] at htot
  have HHW := Lib.hid hN
  have HSN := Lib.hid (fun q (h : S q) => (hS q h).1)
  have HJ := Lib.hid (fun (s : List SgD) (X Y : World) (h : J s X) (hb : Below X.heap.size X Y) => hJ s X Y none h (grown_below hb none) (fun r e => by cases e))
  have HY := Lib.hid hY
  have HJ0 := Lib.hid hj0
  have HK2 := Lib.hid K2
  have HK3 := Lib.hid K3
  have HK4 := Lib.hid K4
  have HSS := Lib.hid hSS
  have HLL := Lib.hid hl
  clear hW hS hJ hJx hY hj0 hB1 hB2 hB3 hB4 bx K2 K3 K4 hr hc hm hg hlen hok hcnt hst hm0 hXs hPP hSS hl
  refine callsIn_of_wp Try.func36 rfl trivial ?_ rfl
  simp only [Try.ntmps36, List.size_toArray, List.length_cons, List.length_nil, Nat.reduceAdd, Nat.reduceSub, Array.replicate_succ, Array.replicate_zero, List.push_toArray, List.append_toArray, List.nil_append, List.cons_append]
  gi_wp2_with fail
  refine ⟨trivial, (callsIn_wide.2 HSA.out).mono ?_⟩
  rintro e w1 ⟨rfl, hb1⟩
  have HO1 := Lib.hid (show Out S W w1 from .of_below hb1)
  have HJ1 := Lib.hid (HJ.out _ _ _ HJ0.out hb1)
  have a22 := (HK2.out _ HO1.out).1
  have hbb := hb1.size
  clear hb1 HSA HJ0 a1 a2 a3 a4
  gi_wp2
  gi_loopw [6, 16] (fun v i wr => ∃ (x mm : Nat) (pre : List SgD), i = .int .i64 (x : Int) ∧ v = .int .u64 (mm : Int) ∧ x ≤ n ∧ Hid (Xs = pre ++ sgs k mm (PP.drop (x * 2))) ∧ Hid (J pre wr) ∧ Hid (Out S W wr)) (fun _ i _ => (n - intOf i).toNat)
  case atStart => exact ⟨0, m0, [], rfl, rfl, by omega, HP0, HJ1, HO1⟩
  case round =>
    clear HP0 HJ1 HO1 a22 hbb b1 b2 b3 b4
    obtain ⟨x, mm, pre, rfl, rfl, hx, HE, HJ2, HO2⟩ := hrel
    by_cases hlt : x < n
    · obtain ⟨a, d, rfl, hd, hab, d0, d1, hcut, hoth⟩ := KC.out wr HO2.out x hlt
      have a3 := (HK3.out _ HO2.out).1
      have b3 := (HK3.out _ HO2.out).2
      have a4 := (HK4.out _ HO2.out).1
      have b4 := (HK4.out _ HO2.out).2
      rw [← HSS.out] at hcut
      have hlt2 : (x : Int) < (n : Int) := by omega
      obtain ⟨f, hf⟩ : ∃ f, f = x * SS := ⟨_, rfl⟩
      obtain ⟨e1, he1⟩ : ∃ e1, e1 = f + d.cut := ⟨_, rfl⟩
      obtain ⟨r1, hr1⟩ : ∃ r1, r1 = SS - d.cut := ⟨_, rfl⟩
      have hfm : f ≤ 2147483647000000 := by
        have : x * SS ≤ 1000000 * 2147483647 := Nat.mul_le_mul (by omega) hS31
        omega
      have hD := HPD.out x d hd
      rw [← hf, ← he1, ← hr1] at hD
      have HD := Lib.hid hD
      have hE := HE.out
      rw [hD] at hE
      have HE0 := Lib.hid (show Xs = pre ++ sgs k mm ((⟨x, f, d.cut⟩ :: ⟨d.oth, e1, r1⟩ :: PP.drop ((x + 1) * 2)).drop 0) from hE)
      obtain ⟨w2, hw2⟩ : ∃ w2, w2 = wr.alloc (.cells #[.int .u64 (d.cut : Int), .int .u32 (d.oth : Int)] 46) := ⟨_, rfl⟩
      have hb2 : Below wr.heap.size wr w2 := by rw [hw2]; exact (Below.refl _ _).alloc (Nat.le_refl _) _
      have HPT := Lib.hid (parts_any x d.cut d.oth SS f e1 r1 w2 (by omega) hS31 hcut (by rw [HLL.out] at hoth; omega) hf he1 (by omega))
      have HO3 := Lib.hid (HO2.out.trans (.of_below hb2))
      have HJ3 := Lib.hid (HJ.out _ _ _ HJ2.out hb2)
      have HW2 := Lib.hid hw2
      have HTB := Lib.hid (And.intro hf (And.intro he1 hr1))
      have hem : e1 ≤ 2147483647000000 + 2147483647 := by omega
      have hrm : r1 ≤ 2147483647 := by omega
      rw [HLL.out] at hoth
      clear hD hE hd hb2 hw2 hf he1 hr1 HE
      gi_wp2_with fail
      rw [← HW2.out]
      refine ⟨trivial, (callsIn_wide.2 HPT.out).mono ?_⟩
      rintro e w3 ⟨rfl, hb3⟩
      have HO4 := Lib.hid (HO3.out.trans (.of_below hb3))
      have HJ4 := Lib.hid (HJ.out _ _ _ HJ3.out hb3)
      clear hb3 HPT HO3 HJ3 a3 b3 a4 b4 d0 d1 hab
      gi_wp2
      obtain ⟨RR, hRR⟩ : ∃ RR : List PrtD, RR = PP.drop ((x + 1) * 2) := ⟨_, rfl⟩
      rw [← hRR] at HE0
      have HRR := Lib.hid hRR
      clear hRR
      gi_loopw [6, 25] (fun v i wx => ∃ (j m2 : Nat) (pre2 : List SgD), i = .int .i64 (j : Int) ∧ v = .int .u64 (m2 : Int) ∧ j ≤ 2 ∧ Hid (Xs = pre2 ++ sgs k m2 ((⟨x, f, d.cut⟩ :: ⟨d.oth, e1, r1⟩ :: RR).drop j)) ∧ Hid (J pre2 wx) ∧ Hid (Out S W wx)) (fun _ i _ => (2 - intOf i).toNat)
      case atStart => exact ⟨0, mm, pre, rfl, rfl, by omega, HE0, HJ4, HO4⟩
      case round =>
        clear HE0 HJ4 HO4 HJ2 HO2
        obtain ⟨j, m2, pre2, rfl, rfl, hj, HE3, HJ5, HO5⟩ := hrel
        have a3 := (HK3.out _ HO5.out).1
        have b3 := (HK3.out _ HO5.out).2
        by_cases hj2 : j < 2
        · rcases (show j = 0 ∨ j = 1 by omega) with rfl | rfl
          · -- part 0
            obtain ⟨w4, hw4⟩ : ∃ w4, w4 = wr.alloc (.cells #[.int .i64 (x : Int), .int .u64 (f : Int), .int .u64 (d.cut : Int)] 68) := ⟨_, rfl⟩
            have hb4 : Below wr.heap.size wr w4 := by rw [hw4]; exact (Below.refl _ _).alloc (Nat.le_refl _) _
            have HO6 := Lib.hid (HO5.out.trans (.of_below hb4))
            have HJ6 := Lib.hid (HJ.out _ _ _ HJ5.out hb4)
            have HB6 := Lib.hid (show Blk w4 wr.heap.size [.int .i64 (x : Int), .int .u64 (f : Int), .int .u64 (d.cut : Int)] by rw [hw4]; exact Blk.new wr [.int .i64 (x : Int), .int .u64 (f : Int), .int .u64 (d.cut : Int)] _)
            have HW4 := Lib.hid hw4
            have hE := HE3.out
            have ix : ∀ w : World, (Instr.index 69 (.agg #[.int .i64 (x : Int), .int .u64 (f : Int), .int .u64 (d.cut : Int), .int .i64 (d.oth : Int), .int .u64 (e1 : Int), .int .u64 (r1 : Int)]) (.int .i64 0)).run Try.prog w = .ok (.agg #[.int .i64 (x : Int), .int .u64 (f : Int), .int .u64 (d.cut : Int)]) w := fun _ => by kernel_rfl
            by_cases htk : x = k
            · have htk2 : ((x : Int) != (k : Int)) = false := by rw [bne_eq_false_iff_eq]; omega
              have hE2 : Xs = pre2 ++ ⟨f, m2, d.cut⟩ :: sgs k (m2 + d.cut) ((⟨x, f, d.cut⟩ :: ⟨d.oth, e1, r1⟩ :: RR).drop (0 + 1)) := by
                rw [hE]
                show pre2 ++ sgs k m2 (⟨x, f, d.cut⟩ :: ((⟨x, f, d.cut⟩ :: ⟨d.oth, e1, r1⟩ :: RR).drop (0 + 1))) = _
                rw [sgs, if_pos htk]
              have hbnd := HBD.out ⟨f, m2, d.cut⟩ (by rw [hE2]; simp)
              rw [HLL.out, ← HSS.out] at hbnd
              dsimp only at hbnd
              have hm2 : m2 ≤ 4294967294000000 := by omega
              have hm3 : m2 + d.cut ≤ 4294967294000000 := by omega
              obtain ⟨m3, hm3e⟩ : ∃ m3, m3 = m2 + d.cut := ⟨_, rfl⟩
              have hmi : (m2 : Int) + (d.cut : Int) = (m3 : Int) := by omega
              rw [← hm3e] at hE2 hm3
              obtain ⟨fn, tmps, assign, body, hy, hRo⟩ := HY.out pre2 _ _ w4 hE2 HO6.out HJ6.out
              unfold encS at hy
              dsimp only at hy
              have HRo := Lib.hid hRo
              have HE4 := Lib.hid (show Xs = (pre2 ++ [⟨f, m2, d.cut⟩]) ++ sgs k m3 ((⟨x, f, d.cut⟩ :: ⟨d.oth, e1, r1⟩ :: RR).drop (0 + 1)) by rw [hE2, List.append_assoc]; rfl)
              rw [hw4] at hy
              clear hE hE2 hbnd hm3e hRo hb4 hw4 htk
              gi_wp2_with fail
              rw [← HW4.out]
              refine HRo.out.mono ?_
              rintro e W3 ⟨ho3, ⟨rfl, hJ3⟩ | ⟨rfl, hJx3⟩⟩
              · have HJ7 := Lib.hid hJ3
                have HO7 := Lib.hid (HO6.out.trans ho3)
                have g2 := (HB6.out.out ho3 (fun hs => by have := HSN.out _ hs; have := HO5.out.size; omega)).cell (i := 2) rfl
                clear hJ3 ho3 hy a3 b3
                gi_wp2
                go_roundw
                case rel => exact ⟨0 + 1, m3, _, by go_num, rfl, by omega, HE4, HJ7, HO7⟩
                case measure => simp [intOf]
              · have HO7 := Lib.hid (HO6.out.trans ho3)
                have HJX := Lib.hid hJx3
                clear hJx3 ho3 hy a3 b3
                gi_wp2
                refine bodyPost_ret (results_none rfl _ _ _) rfl ?_
                exact ⟨⟨_, rfl⟩, HO7.out, .inr ⟨_, _, HE4.out, HJX.out⟩⟩
            · have htk2 : ((x : Int) != (k : Int)) = true := by rw [bne_iff_ne]; omega
              have HE4 := Lib.hid (show Xs = pre2 ++ sgs k m2 ((⟨x, f, d.cut⟩ :: ⟨d.oth, e1, r1⟩ :: RR).drop (0 + 1)) by
                rw [hE]
                show pre2 ++ sgs k m2 (⟨x, f, d.cut⟩ :: ((⟨x, f, d.cut⟩ :: ⟨d.oth, e1, r1⟩ :: RR).drop (0 + 1))) = _
                rw [sgs, if_neg htk])
              clear hE hb4 hw4 htk
              gi_wp2
              rw [← HW4.out]
              go_roundw
              case rel => exact ⟨0 + 1, m2, pre2, by go_num, rfl, by omega, HE4, HJ6, HO6⟩
              case measure => simp [intOf]
          · -- part 1
            obtain ⟨w4, hw4⟩ : ∃ w4, w4 = wr.alloc (.cells #[.int .i64 (d.oth : Int), .int .u64 (e1 : Int), .int .u64 (r1 : Int)] 68) := ⟨_, rfl⟩
            have hb4 : Below wr.heap.size wr w4 := by rw [hw4]; exact (Below.refl _ _).alloc (Nat.le_refl _) _
            have HO6 := Lib.hid (HO5.out.trans (.of_below hb4))
            have HJ6 := Lib.hid (HJ.out _ _ _ HJ5.out hb4)
            have HB6 := Lib.hid (show Blk w4 wr.heap.size [.int .i64 (d.oth : Int), .int .u64 (e1 : Int), .int .u64 (r1 : Int)] by rw [hw4]; exact Blk.new wr [.int .i64 (d.oth : Int), .int .u64 (e1 : Int), .int .u64 (r1 : Int)] _)
            have HW4 := Lib.hid hw4
            have hE := HE3.out
            have ix : ∀ w : World, (Instr.index 69 (.agg #[.int .i64 (x : Int), .int .u64 (f : Int), .int .u64 (d.cut : Int), .int .i64 (d.oth : Int), .int .u64 (e1 : Int), .int .u64 (r1 : Int)]) (.int .i64 1)).run Try.prog w = .ok (.agg #[.int .i64 (d.oth : Int), .int .u64 (e1 : Int), .int .u64 (r1 : Int)]) w := fun _ => by kernel_rfl
            by_cases htk : d.oth = k
            · have htk2 : ((d.oth : Int) != (k : Int)) = false := by rw [bne_eq_false_iff_eq]; omega
              have hE2 : Xs = pre2 ++ ⟨e1, m2, r1⟩ :: sgs k (m2 + r1) ((⟨x, f, d.cut⟩ :: ⟨d.oth, e1, r1⟩ :: RR).drop (1 + 1)) := by
                rw [hE]
                show pre2 ++ sgs k m2 (⟨d.oth, e1, r1⟩ :: ((⟨x, f, d.cut⟩ :: ⟨d.oth, e1, r1⟩ :: RR).drop (1 + 1))) = _
                rw [sgs, if_pos htk]
              have hbnd := HBD.out ⟨e1, m2, r1⟩ (by rw [hE2]; simp)
              rw [HLL.out, ← HSS.out] at hbnd
              dsimp only at hbnd
              have hm2 : m2 ≤ 4294967294000000 := by omega
              have hm3 : m2 + r1 ≤ 4294967294000000 := by omega
              obtain ⟨m3, hm3e⟩ : ∃ m3, m3 = m2 + r1 := ⟨_, rfl⟩
              have hmi : (m2 : Int) + (r1 : Int) = (m3 : Int) := by omega
              rw [← hm3e] at hE2 hm3
              obtain ⟨fn, tmps, assign, body, hy, hRo⟩ := HY.out pre2 _ _ w4 hE2 HO6.out HJ6.out
              unfold encS at hy
              dsimp only at hy
              have HRo := Lib.hid hRo
              have HE4 := Lib.hid (show Xs = (pre2 ++ [⟨e1, m2, r1⟩]) ++ sgs k m3 ((⟨x, f, d.cut⟩ :: ⟨d.oth, e1, r1⟩ :: RR).drop (1 + 1)) by rw [hE2, List.append_assoc]; rfl)
              rw [hw4] at hy
              clear hE hE2 hbnd hm3e hRo hb4 hw4 htk
              gi_wp2_with fail
              rw [← HW4.out]
              refine HRo.out.mono ?_
              rintro e W3 ⟨ho3, ⟨rfl, hJ3⟩ | ⟨rfl, hJx3⟩⟩
              · have HJ7 := Lib.hid hJ3
                have HO7 := Lib.hid (HO6.out.trans ho3)
                have g2 := (HB6.out.out ho3 (fun hs => by have := HSN.out _ hs; have := HO5.out.size; omega)).cell (i := 2) rfl
                clear hJ3 ho3 hy a3 b3
                gi_wp2
                go_roundw
                case rel => exact ⟨1 + 1, m3, _, by go_num, rfl, by omega, HE4, HJ7, HO7⟩
                case measure => simp [intOf]
              · have HO7 := Lib.hid (HO6.out.trans ho3)
                have HJX := Lib.hid hJx3
                clear hJx3 ho3 hy a3 b3
                gi_wp2
                refine bodyPost_ret (results_none rfl _ _ _) rfl ?_
                exact ⟨⟨_, rfl⟩, HO7.out, .inr ⟨_, _, HE4.out, HJX.out⟩⟩
            · have htk2 : ((d.oth : Int) != (k : Int)) = true := by rw [bne_iff_ne]; omega
              have HE4 := Lib.hid (show Xs = pre2 ++ sgs k m2 ((⟨x, f, d.cut⟩ :: ⟨d.oth, e1, r1⟩ :: RR).drop (1 + 1)) by
                rw [hE]
                show pre2 ++ sgs k m2 (⟨d.oth, e1, r1⟩ :: ((⟨x, f, d.cut⟩ :: ⟨d.oth, e1, r1⟩ :: RR).drop (1 + 1))) = _
                rw [sgs, if_neg htk])
              clear hE hb4 hw4 htk
              gi_wp2
              rw [← HW4.out]
              go_roundw
              case rel => exact ⟨1 + 1, m2, pre2, by go_num, rfl, by omega, HE4, HJ6, HO6⟩
              case measure => simp [intOf]
        · have hj3 : j = 2 := by omega
          subst hj3
          have HE4 := Lib.hid (show Xs = pre2 ++ sgs k m2 (PP.drop ((x + 1) * 2)) by rw [← HRR.out]; exact HE3.out)
          clear HE3
          gi_wp2
          go_roundw
          case rel => exact ⟨x + 1, m2, pre2, by go_num, rfl, by omega, HE4, HJ5, HO5⟩
          case measure => simp [intOf]; omega
    · have e : x = n := by omega
      subst e
      have hE := HE.out
      rw [HPE.out, sgs, List.append_nil] at hE
      have HEE := Lib.hid hE
      clear hE
      gi_wp2
      go_end0
      exact ⟨⟨_, rfl⟩, HO2.out, .inl (by rw [HEE.out]; exact HJ2.out)⟩
end Go.Proofs.Ytoflbfkmkalgcaa
