/- text.ends: the iterator over the ends of a text's lines, to a loop whose rows grow. -/
import Derived.Test.YtbedepnmgnlijaaDoorTxL
import Derived.Test.YtbedepnmgnlijaaDoorRgQ
import Derived.Test.YtbedepnmgnlijaaDoorTxE
import Derived.Test.YtbedepnmgnlijaaDoorScI
import Derived.Shelf.Abstract
import Derived.Shelf.RegionOpen
import Derived.OwnWalkIn
import Derived.TacticsInMore
import Derived.LoopNIn
import Derived.LoopIn
import Derived.WalkKit
namespace Go.Proofs.YtbedepnmgnlijaaDoor.Rq
open Go.RowKit Me Tx Go.Proofs.YtbedepnmgnlijaaDoor

attribute [local go_sem] Oper.semAt_some
set_option maxRecDepth 100000 in
set_option maxHeartbeats 2000000 in
theorem ends_in (l Bb : Nat) (A : Option Addr) (k c : Nat) (b : List UInt8) (hb : b.length = k) (hkc : k ≤ c) (hc63 : c ≤ 9223372036854775807) (S : Nat → Prop) (J Jx : List Nat → World → Prop) (W : World)
    (hS : ∀ q, S q → ¬ MemB Bb A b q)
    (hY : ∀ (pre : List Nat) (x : Nat) (post : List Nat) (W1 : World), endsS 0 false b = pre ++ x :: post → Out S W W1 → J pre W1 → YieldAt Fence.wide 1 Tryd.prog l #[.int .i64 (x : Int)] W1 fun e W' =>
      Out S W1 W' ∧ ((e = .returned (.bool true) ∧ J (pre ++ [x]) W') ∨ (e = .returned (.bool false) ∧ Jx (pre ++ [x]) W')))
    (hB : Blk W Bb [.slice A k c]) (hr : Rd W W.heap.size A b) (h0 : J [] W) :
    CallsIn Fence.wide 2 Tryd.prog 38 #[.func (.yield l) #[] #[], .pointer (some ⟨Bb, 0, none⟩)] W fun e W' => (∃ v, e = .returned v) ∧ Out S W W' ∧
      (J (endsS 0 false b) W' ∨ ∃ pre post, endsS 0 false b = pre ++ post ∧ Jx pre W') := by
  have HS := Lib.hid hS
  have HB := Lib.hid hB
  have HR := Lib.hid hr
  have HL := Lib.hid hb
  have HO0 := Lib.hid (Out.refl S W)
  have HJ0 := Lib.hid h0
  clear hS hB hr h0 hb
  refine callsIn_of_wp Tryd.func38 rfl trivial ?_ rfl
  simp only [Tryd.ntmps38, List.size_toArray, List.length_cons, List.length_nil, Nat.reduceAdd, Nat.reduceSub, Array.replicate_succ, Array.replicate_zero, List.push_toArray, List.append_toArray, List.nil_append, List.cons_append]
  refine wpIn_scope (wpIn_seq ?_)
  gi_wp2
  refine wpIn_label ?_
  gi_wp2
  gi_loopw [3] (fun i wr => ∃ (s : Nat) (pre : List Nat), i = .int .i64 (s : Int) ∧ s ≤ k ∧ Hid (endsS 0 false b = pre ++ endsS s false (b.drop s)) ∧ Hid (J pre wr) ∧ Hid (Out S W wr)) (fun i _ => (k - intOf i).toNat)
  case atStart => exact ⟨0, [], rfl, by omega, Lib.hid rfl, HJ0, HO0⟩
  case round =>
    clear HJ0 HO0
    obtain ⟨s, pre, rfl, hs, HE, HJ, HO⟩ := hrel
    have x0 : wr.cell? ⟨Bb, 0, none⟩ = some (.slice A k c) := (HB.out.out HO.out (fun h => HS.out _ h (.inl rfl))).cell (i := 0) rfl
    by_cases hlt : s < k
    · obtain ⟨a, rfl, -, HC⟩ : ∃ a : Addr, A = some a ∧ True ∧ Hid (∀ i u, b[i]? = some u → wr.cell? (a.add i) = some (.int .u8 (u.toNat : Int))) := by
        obtain ⟨a, e, h1, h2⟩ := HR.out (by rw [HL.out]; omega)
        exact ⟨a, e, trivial, Lib.hid fun i u hu => (HO.out.cell (p := a.add i) (by rw [block_add]; exact h1) (by rw [block_add]; exact fun h => HS.out _ h (.inr ⟨by rw [HL.out]; omega, a, e, rfl⟩))).trans (h2 i u hu)⟩
      obtain ⟨t, ht⟩ : ∃ t, t = k - s := ⟨_, rfl⟩
      obtain ⟨c', hc'⟩ : ∃ c', c' = c - s := ⟨_, rfl⟩
      have HT := Lib.hid (show t + s = k by omega)
      have HC' := Lib.hid (show c' + s = c by omega)
      have h2 : (s : Int) < (k : Int) := by omega
      have e3 : (s : Int) ≤ (k : Int) := by omega
      have e4 : ¬ c = s := by omega
      gi_wp2
      try simp only [← ht, ← hc', e4, if_false]
      have HM := Lib.hid (show (s : Int) + (t : Int) = (k : Int) by have := HT.out; omega)
      gi_loopw [3, 14] (fun st i wx => ∃ (j : Nat), st = .int .i64 (s : Int) ∧ i = .int .i64 (j : Int) ∧ j ≤ t ∧ wx = wr ∧ Hid (endsS 0 false b = pre ++ endsS (s + j) (decide (0 < j)) (b.drop (s + j)))) (fun _ i _ => (t - intOf i).toNat)
      case atStart => exact ⟨0, rfl, rfl, by omega, rfl, HE⟩
      case round =>
        clear ht hc'
        obtain ⟨j, rfl, rfl, hj, rfl, HE2⟩ := hrel
        by_cases hjt : j < t
        · have hlt2 : s + j < b.length := by rw [HL.out, ← HT.out]; omega
          obtain ⟨u, hu⟩ : ∃ u, b[s + j]? = some u := ⟨_, List.getElem?_eq_getElem hlt2⟩
          have hd : b.drop (s + j) = u :: b.drop (s + (j + 1)) := by
            rw [List.drop_eq_getElem_cons hlt2]
            rw [List.getElem?_eq_getElem hlt2] at hu
            injection hu with hu
            rw [hu]; rfl
          have hcl : wr.cell? ((a.add s).add j) = some (.int .u8 (u.toNat : Int)) := by rw [add_add]; exact HC.out _ _ hu
          have hE := HE2.out
          rw [hd, endsS] at hE
          have hj2 : (j : Int) < (t : Int) := by omega
          by_cases hu10 : u = 10
          · subst hu10
            rw [if_pos rfl] at hE
            obtain ⟨fn, tmps, assign, body, hy, hRo⟩ := hY pre (s + j) _ wr hE HO.out HJ.out
            rw [show ((s + j : Nat) : Int) = (s : Int) + (j : Int) by omega] at hy
            have HRo := Lib.hid hRo
            have HE3 := Lib.hid (show endsS 0 false b = (pre ++ [s + j]) ++ endsS (s + j + 1) false (b.drop (s + j + 1)) by rw [hE]; simp; rfl)
            have ew : IntKind.i64.wrap ((s : Int) + (j : Int)) = (s : Int) + (j : Int) := IntWalk.i64_in _ (by have := HM.out; omega)
            have ew2 : IntKind.i64.wrap ((s : Int) + ((j : Int) + 1)) = (s : Int) + ((j : Int) + 1) := IntWalk.i64_in _ (by have := HM.out; omega)
            have ew3 : IntKind.i64.wrap ((j : Int) + 1) = (j : Int) + 1 := IntWalk.i64_in _ (by have := HM.out; omega)
            clear hRo hu hd hE hlt2
            gi_wp2_with fail
            refine HRo.out.mono ?_
            rintro e W3 ⟨ho3, ⟨rfl, hJ3⟩ | ⟨rfl, hJx3⟩⟩
            · have HJ3 := Lib.hid hJ3
              have HO3 := Lib.hid (HO.out.trans ho3)
              clear hJ3 ho3 x0 hcl
              gi_wp2
              go_roundw
              case rel => exact ⟨s + j + 1, _, by first | rfl | (congr 1; done) | (congr 1; omega), by have := HM.out; omega, HE3, HJ3, HO3⟩
              case measure => simp [intOf]; omega
            · gi_wp2
              rw [Exit.noGoto_ret]
              refine bodyPost_ret (results_none rfl _ _ _) rfl ?_
              exact ⟨⟨_, rfl⟩, HO.out.trans ho3, .inr ⟨_, _, HE3.out, hJx3⟩⟩
          · rw [if_neg hu10] at hE
            have hu' : ¬ (u.toNat : Int) = 10 := fun e => hu10 (by
              have : u.toNat = (10 : UInt8).toNat := by simpa using (by omega : u.toNat = 10)
              exact UInt8.toNat_inj.1 this)
            have ew3 : IntKind.i64.wrap ((j : Int) + 1) = (j : Int) + 1 := IntWalk.i64_in _ (by have := HM.out; omega)
            have HE3 := Lib.hid (show endsS 0 false b = pre ++ endsS (s + (j + 1)) (decide (0 < j + 1)) (b.drop (s + (j + 1))) by rw [hE]; simp; rfl)
            clear hu hd hE hlt2
            gi_wp2
            go_roundw
            case rel => exact ⟨j + 1, by first | rfl | trivial, by first | rfl | trivial, by omega, by first | rfl | trivial, HE3⟩
            case measure => simp [intOf]; omega
        · have hjt2 : j = t := by omega
          have hE := HE2.out
          rw [List.drop_eq_nil_of_le (by rw [HL.out, ← HT.out]; omega), endsS, if_pos (by simp; have := HT.out; omega), show s + j = k by have := HT.out; omega] at hE
          obtain ⟨fn, tmps, assign, body, hy, hRo⟩ := hY pre k [] wr hE HO.out HJ.out
          have HRo := Lib.hid hRo
          have HEE := Lib.hid hE
          clear hRo hE
          gi_wp2_with fail
          refine HRo.out.mono ?_
          rintro e W3 ⟨ho3, ⟨rfl, hJ3⟩ | ⟨rfl, hJx3⟩⟩
          all_goals
            gi_wp2
            rw [Exit.noGoto_ret]
            refine bodyPost_ret (results_none rfl _ _ _) rfl ?_
          · exact ⟨⟨_, rfl⟩, HO.out.trans ho3, .inl (by rw [HEE.out]; exact hJ3)⟩
          · exact ⟨⟨_, rfl⟩, HO.out.trans ho3, .inr ⟨_, [], by rw [HEE.out]; simp, hJx3⟩⟩
    · have hE := HE.out
      rw [List.drop_eq_nil_of_le (by rw [HL.out]; omega), endsS, if_neg (by simp)] at hE
      have HEE := Lib.hid hE
      clear hE
      gi_wp2
      rw [Exit.noGoto_normal]
      go_end0
      exact ⟨⟨_, rfl⟩, HO.out, .inl (by rw [HEE.out, List.append_nil]; exact HJ.out)⟩

/-- ends(b) gives the ends of b's lines. -/
theorem ends_gives (Bb : Nat) (A : Option Addr) (k c : Nat) (b : List UInt8) (hb : b.length = k) (hkc : k ≤ c) (hc63 : c ≤ 9223372036854775807) (w : World) (hB : Blk w Bb [.slice A k c]) (hr : Rd w w.heap.size A b) :
    Rq.Gives Tryd.prog 38 #[.pointer (some ⟨Bb, 0, none⟩)] (fun x : Nat => #[.int .i64 (x : Int)]) (endsS 0 false b) (MemB Bb A b) 0 w := fun n l S J Jx W hW hS _ _ hY h0 =>
  callsIn_any (ends_in l Bb A k c b hb hkc hc63 S J Jx W (fun q h => (hS q h).2) (fun pre x post W1 hX ho hj => hY pre x post W1 hX ho.size ho hj) (hB.past hW) ((hr.below hW).more hW.size) h0)
end Go.Proofs.YtbedepnmgnlijaaDoor.Rq
