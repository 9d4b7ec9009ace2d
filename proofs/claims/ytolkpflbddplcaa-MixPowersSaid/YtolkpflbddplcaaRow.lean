/- The sequence of a tape, as an iterator: its numbers are the draw, then each mixed out of the one ahead of it. -/
import Derived.Test.YtolkpflbddplcaaWalk
import Derived.Test.YtolkpflbddplcaaRange
import Derived.Deep.LoopGhost
import Derived.Shelf.Abstract
import Derived.Shelf.RegionOpen
import Derived.OwnWalkIn
import Derived.TacticsInMore
import Derived.LoopNIn
import Derived.LoopIn
namespace Go.Proofs.Ytolkpflbddplcaa
open Go.RowKit Mx

/-- A number that fits 64 bits. -/
abbrev N64 := { x : Int // U64 x }
/-- Number i of a sequence that begins with d. -/
def rowI (d : Int) : Nat → Int
  | 0 => d
  | i + 1 => mixI (rowI d i)
theorem rowI_U64 {d : Int} (hd : U64 d) : ∀ i, U64 (rowI d i)
  | 0 => hd
  | _ + 1 => mixI_U64 _
/-- The first of a sequence, so many as they are. -/
def FirstOf (d : Int) (pre : List N64) : Prop := ∀ i (h : i < pre.length), (pre[i]'h).1 = rowI d i
theorem FirstOf.nil (d : Int) : FirstOf d [] := fun i h => by simp at h
theorem FirstOf.snoc {d : Int} {pre : List N64} (h : FirstOf d pre) (x : N64) (hx : x.1 = rowI d pre.length) : FirstOf d (pre ++ [x]) := fun i hi => by
  by_cases hlt : i < pre.length
  · rw [List.getElem_append_left hlt]; exact h i hlt
  · have e : i = pre.length := by simp at hi; omega
    subst e
    simpa using hx

attribute [local go_sem] Oper.semAt_some
/-- What the loop's head knows. -/
def Head (d : Int) (J : List N64 → World → Prop) (p : Value) (wr : World) (N m : Nat) : Prop :=
  ∃ pre : List N64, p = .int .u64 (rowI d pre.length) ∧ FirstOf d pre ∧ J pre wr ∧ m = N - pre.length

set_option maxHeartbeats 1000000 in
theorem row_endless (n : Nat) (hn : 1 ≤ n) (s k t a : Int) (b N n₀ : Nat) (w : World)
    (c0 : w.cell? ⟨b, 0, none⟩ = some (.int .u64 s)) (c1 : w.cell? ⟨b, 1, none⟩ = some (.int .u64 k)) (c2 : w.cell? ⟨b, 2, none⟩ = some (.int .u64 t)) (c3 : w.cell? ⟨b, 3, none⟩ = some (.int .u64 a)) :
    Rg.Endless Fence.wide n Try.prog 17 #[.pointer (some ⟨b, 0, none⟩)] (fun x : N64 => #[.int .u64 x.1]) n₀ (FirstOf (drawI s k t a)) N w := by
  intro l J Jx W hW hJ hJx hN hY h0
  have d0 := bcell hW c0
  have d1 := bcell hW c1
  have d2 := bcell hW c2
  have d3 := bcell hW c3
  refine callsIn_of_wp Try.func17 rfl trivial ?_ rfl
  simp only [Try.ntmps17, List.size_toArray, List.length_cons, List.length_nil, Nat.reduceAdd, Nat.reduceSub, Array.replicate_succ, Array.replicate_zero, List.push_toArray, List.append_toArray, List.nil_append, List.cons_append]
  gi_wp2_with ((refine ⟨trivial, ?_⟩); (refine (callsIn_wide.2 (draw_exact s k t a _)).mono ?_); rintro e w' ⟨rfl, rfl⟩)
  have h1 : J [] (W.alloc (.cells #[.int .u64 s, .int .u64 k, .int .u64 t, .int .u64 a] 24)) := hJ [] W _ none h0 (World.grownBy_alloc W _ none) (fun r e => by cases e)
  clear h0 d0 d1 d2 d3 c0 c1 c2 c3
  gi_loopw [3] (fun p wr => ∃ m, Head (drawI s k t a) J p wr N m) (fun p wr => leastOf (fun m => Head (drawI s k t a) J p wr N m))
  case atStart => exact ⟨N, [], rfl, FirstOf.nil _, h1, rfl⟩
  case round =>
    obtain ⟨⟨pre, rfl, hpre, hj, hm⟩, _⟩ := leastOf_spec hrel
    have hlen := hN _ _ hj
    obtain ⟨fn, tmps, assign, body, hy, hR⟩ := hY pre ⟨rowI (drawI s k t a) pre.length, rowI_U64 (drawI_U64 s k t a) _⟩ _ hj
    dsimp only at hy
    gi_wp2
    refine hR.mono ?_
    rintro e W3 (⟨rfl, hj3, hk3⟩ | ⟨rfl, hjx3⟩)
    · have hL := Lib.hid hm
      have hJ3 := Lib.hid hj3
      have hP := Lib.hid hpre
      clear hm hrel hj3 hj hpre hR hy
      gi_wp2_with ((refine ⟨trivial, ?_⟩); (refine (callsIn_wide.2 (mix_any _ _)).mono ?_); rintro e w' ⟨rfl, rfl⟩)
      have hnew : Head (drawI s k t a) J (.int .u64 (mixI (rowI (drawI s k t a) pre.length))) W3 N (N - (pre.length + 1)) :=
        ⟨pre ++ [⟨rowI (drawI s k t a) pre.length, rowI_U64 (drawI_U64 s k t a) _⟩], by simp [rowI], hP.out.snoc _ rfl, hJ3.out, by simp⟩
      go_roundw
      case rel => exact ⟨_, hnew⟩
      case measure =>
        have hle := (leastOf_spec ⟨_, hnew⟩).2 _ hnew
        have hL' := hL.out
        show leastOf (Head (drawI s k t a) J (.int .u64 (mixI (rowI (drawI s k t a) pre.length))) W3 N) < leastOf (Head (drawI s k t a) J (.int .u64 (rowI (drawI s k t a) pre.length)) wr N)
        rw [hL']
        exact Nat.lt_of_le_of_lt hle (by omega)
    · gi_wp2
      go_end0
      exact ⟨⟨_, rfl⟩, _, hpre.snoc _ rfl, hjx3⟩
end Go.Proofs.Ytolkpflbddplcaa
