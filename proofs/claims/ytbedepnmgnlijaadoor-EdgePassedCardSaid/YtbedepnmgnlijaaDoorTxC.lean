/- text.Lines: the iterator over a text's lines. -/
import Derived.Test.YtbedepnmgnlijaaDoorTxE
import Derived.Test.YtbedepnmgnlijaaDoorTxR
import Derived.Test.YtbedepnmgnlijaaDoorTailI
namespace Go.Proofs.YtbedepnmgnlijaaDoor
open Go.RowKit Me Tx

/-- A line as it is handed on. -/
def encL (x : Nat × List UInt8) : Array Value := #[.int .i64 (x.1 : Int), sv x.2]
set_option maxRecDepth 100000 in
theorem ends_any (A : Option Addr) (n c : Nat) (w : World) :
    Calls Tryd.prog 33 #[.slice A n c] w fun e w' => e = .returned (.func (.func 38) #[] #[.pointer (some ⟨w.heap.size, 0, none⟩)]) ∧ w' = w.alloc (.cells #[.slice A n c] 32) := by
  go_enter Tryd.func33, Tryd.ntmps33
  go_wp2
  go_ret
  exact ⟨rfl, rfl⟩
set_option maxRecDepth 100000 in
theorem lines_any (A : Option Addr) (n c : Nat) (w : World) :
    Calls Tryd.prog 24 #[.slice A n c] w fun e w' => e = .returned (.func (.func 32) #[] #[.pointer (some ⟨w.heap.size, 0, none⟩)]) ∧ w' = w.alloc (.cells #[.slice A n c] 32) := by
  go_enter Tryd.func24, Tryd.ntmps24
  go_wp2
  go_ret
  exact ⟨rfl, rfl⟩
/-- What is known of each slot of the region that hands a line on. -/
def lcG (H Bb l n c s e q t c' : Nat) (a : Addr) (y : List UInt8) : Gw.Fact := fun i v _ =>
  match i with
  | 1 => v = .pointer (some ⟨Bb, 0, none⟩)
  | 2 => v = .pointer (some ⟨H, 0, none⟩)
  | 3 => v = .pointer (some ⟨H + 1, 0, none⟩)
  | 4 => v = .pointer (some ⟨H + 2, 0, none⟩)
  | 5 | 15 => v = .int .i64 (e : Int)
  | 11 => v = .func (.yield l) #[] #[]
  | 12 => v = .int .i64 (q : Int)
  | 13 => v = .slice (some a) n c
  | 14 => v = .int .i64 (s : Int)
  | 16 => v = .slice (some (a.add s)) t c'
  | 17 => v = sv y
  | _ => True
attribute [local go_sem] Oper.semAt_some
set_option maxRecDepth 100000 in
set_option maxHeartbeats 2000000 in
theorem lines_in (l Bb : Nat) (A : Option Addr) (n c : Nat) (b : List UInt8) (hb : b.length = n) (hnc : n ≤ c) (hc63 : c ≤ 9223372036854775807) (hn30 : n ≤ 1073741824) (S : Nat → Prop) (J Jx : List (Nat × List UInt8) → World → Prop) (W : World)
    (hS : ∀ q, S q → q < W.heap.size ∧ ¬ MemB Bb A b q) (hJ : Ro.Free W.heap.size J) (hJx : Ro.Free W.heap.size Jx)
    (hY : ∀ (pre : List (Nat × List UInt8)) (x : Nat × List UInt8) (post : List (Nat × List UInt8)) (W1 : World), numG 1 (linesG [] b) = pre ++ x :: post → Out S W W1 → J pre W1 → YieldAt Fence.wide 1 Tryd.prog l (encL x) W1 fun e W' =>
      Out S W1 W' ∧ ((e = .returned (.bool true) ∧ J (pre ++ [x]) W') ∨ (e = .returned (.bool false) ∧ Jx (pre ++ [x]) W')))
    (hB : Blk W Bb [.slice A n c]) (hr : Rd W W.heap.size A b) (h0 : J [] W) :
    CallsIn Fence.wide 3 Tryd.prog 32 #[.func (.yield l) #[] #[], .pointer (some ⟨Bb, 0, none⟩)] W fun e W' => (∃ v, e = .returned v) ∧ Out S W W' ∧
      (J (numG 1 (linesG [] b)) W' ∨ ∃ pre post, numG 1 (linesG [] b) = pre ++ post ∧ Jx pre W') := by
  obtain ⟨H, hH⟩ : ∃ H, H = W.heap.size := ⟨_, rfl⟩
  obtain ⟨W0, hW0⟩ : ∃ W0, ((((W.alloc (.cells #[.func (.yield l) #[] #[]] 67)).alloc (.cells #[.int .i64 0] 3)).alloc (.cells #[.int .i64 0] 3)).alloc (.cells #[.slice A n c] 32)) = W0 := ⟨_, rfl⟩
  have hsz : W0.heap.size = H + 4 := by rw [← hW0, hH]; simp
  have hb0 : Below W.heap.size W W0 := by
    rw [← hW0]; exact ((((Below.refl _ W).alloc (Nat.le_refl _) _).alloc (by simp) _).alloc (by simp; omega) _).alloc (by simp; omega) _
  have hB0 : Blk W0 H [.func (.yield l) #[] #[]] := by
    rw [← hW0, hH]; exact (((Blk.new W [.func (.yield l) #[] #[]] _).alloc _).alloc _).alloc _
  have hB1 : Blk W0 (H + 1) [.int .i64 0] := by
    rw [← hW0, hH]; exact ((Blk.new' (W.alloc _) [.int .i64 0] _ (by simp)).alloc _).alloc _
  have hB2 : Blk W0 (H + 2) [.int .i64 0] := by
    rw [← hW0, hH]; exact (Blk.new' ((W.alloc _).alloc _) [.int .i64 0] _ (by simp)).alloc _
  have hB3 : Blk W0 (H + 3) [.slice A n c] := by
    rw [← hW0, hH]; exact Blk.new' (((W.alloc _).alloc _).alloc _) [.slice A n c] _ (by simp)
  have hJ0 : J [] W0 := by
    rw [← hW0]; exact hJ.alloc _ (hJ.alloc _ (hJ.alloc _ (hJ.alloc _ h0)))
  refine callsIn_of_wp_marks Tryd.func32 rfl trivial ?_ rfl
  simp only [Tryd.ntmps32, List.size_toArray, List.length_cons, List.length_nil, Nat.reduceAdd, Nat.reduceSub, Array.replicate_succ, Array.replicate_zero, List.push_toArray, List.append_toArray, List.nil_append, List.cons_append]
  have hcl : ∀ o1 o2 o3, (((W.alloc o1).alloc o2).alloc o3).cell? ⟨Bb, 0, none⟩ = some (.slice A n c) := fun o1 o2 o3 => (((hB.alloc o1).alloc o2).alloc o3).cell (i := 0) rfl
  gi_wp2_with ((refine ⟨trivial, ?_⟩); (refine (callsIn_wide.2 (ends_any _ _ _ _)).mono ?_); rintro e w' ⟨rfl, rfl⟩)
  rw [← hH]
  rw [show H + 1 + 1 + 1 = H + 3 from rfl, show H + 1 + 1 = H + 2 from rfl]
  have hbH : Bb < H := by rw [hH]; exact hB.lt
  have hab : ∀ k, 0 < b.length → (∃ a : Addr, A = some a ∧ k = a.block) → k < H := fun k h0 ⟨a, e, ek⟩ => by
    obtain ⟨a', e', h1, -⟩ := hr h0
    rw [e] at e'
    injection e' with e'
    subst e'
    omega
  have HH := Lib.hid hH
  have HW0 := Lib.hid hW0
  clear hW0 hcl
  have hWH : ∀ k, H ≤ k → W.heap.size ≤ k := fun k hk => by omega
  have hSH : ∀ k, S k → k < H := fun k hk => by rw [hH]; exact (hS k hk).1
  clear hH
  refine Ro.range_gives (gf := 38) (lb := #[.pointer (some ⟨H + 3, 0, none⟩)]) rfl (enters_of Tryd.func38 (by kernel_rfl) rfl)
    (ends_gives (H + 3) A n c b hb hnc hc63 W0 hB3 ((hr.below hb0).more hb0.size)) (Below.refl _ _) (fun _ => rfl)
    (fun k => S k ∨ k = H + 1 ∨ k = H + 2) ?hS ?hM
    (fun pre W' => Blk W' (H + 1) [.int .i64 (pre.length : Int)] ∧ Blk W' (H + 2) [.int .i64 (stOf 0 pre : Int)] ∧ J (numG 1 (cutS b 0 pre)) W')
    (fun c pre W' => c = .ret ∧ Jx (numG 1 (cutS b 0 pre)) W')
    (fun s X Y row hs hg hr => ⟨hs.1.grown hg (fun e => by have := hr _ e; omega), hs.2.1.grown hg (fun e => by have := hr _ e; omega), hJ _ X Y row hs.2.2 hg (fun r e => hWH _ (by have := hr _ e; omega))⟩)
    (fun c s X Y row hs hg hr => ⟨hs.1, hJx _ X Y row hs.2 hg (fun r e => hWH _ (by have := hr _ e; omega))⟩)
    ⟨hB1, hB2, hJ0⟩
    (fun x a' W => a' = { tmps := #[.func (.yield l) #[] #[], .pointer (some ⟨Bb, 0, none⟩), .pointer (some ⟨H, 0, none⟩), .pointer (some ⟨H + 1, 0, none⟩), .pointer (some ⟨H + 2, 0, none⟩), .int .i64 (x : Int), .slice A n c, .func (.func 38) #[] #[.pointer (some ⟨H + 3, 0, none⟩)], .int .i64 (x : Int), undef, undef, undef, undef, undef, undef, undef, undef, undef, undef, undef, undef, undef], defers := [] })
    (fun x a' _ X Y row hs hg hr => hs)
    ?assign ?body ?done ?stop
  case hS =>
    rintro k (h | rfl | rfl)
    · have h2 := hSH k h
      refine ⟨by omega, ?_⟩
      rintro (rfl | ⟨h0, h1⟩)
      · omega
      · exact (hS k h).2 (.inr ⟨h0, h1⟩)
    · refine ⟨by omega, ?_⟩
      rintro (h | ⟨h0, h1⟩)
      · omega
      · have := hab _ h0 h1; omega
    · refine ⟨by omega, ?_⟩
      rintro (h | ⟨h0, h1⟩)
      · omega
      · have := hab _ h0 h1; omega
  case hM =>
    rintro k (rfl | ⟨h0, h1⟩)
    · omega
    · have := hab _ h0 h1; omega
  case assign =>
    rintro l' m pre x W1 K hI ho hK
    dsimp only
    gi_wp2
    exact hK _ _ (Out.refl _ _) hI rfl
  case body =>
    rintro l' m pre x post a' W1 hX ho ⟨i1, i2, i3⟩ rfl
    obtain ⟨s, hs⟩ : ∃ s, s = stOf 0 pre := ⟨_, rfl⟩
    obtain ⟨k, hk⟩ : ∃ k, k = pre.length := ⟨_, rfl⟩
    have hok := ends_ok hX (Nat.le_refl 0)
    have hlt := ends_lt hX (Nat.le_refl 0) (fun h => by cases h)
    rw [← hs, Nat.zero_add, hb] at hok hlt
    obtain ⟨a, ha⟩ : ∃ a, A = some a := by
      obtain ⟨a, e, -⟩ := hr (by rw [hb]; omega)
      exact ⟨a, e⟩
    subst ha
    obtain ⟨t, ht⟩ : ∃ t, t = x - s := ⟨_, rfl⟩
    obtain ⟨c', hc'⟩ : ∃ c', c' = c - s := ⟨_, rfl⟩
    obtain ⟨y, hy0⟩ : ∃ y, y = cutB b s x := ⟨_, rfl⟩
    have hyl : y.length = t := by rw [hy0, ht]; exact cutB_length b s x (by omega)
    have hkn : k ≤ n := by
      have := ends_len b 0 false
      rw [hX, List.length_append, List.length_cons, hb] at this
      omega
    rw [← hs] at i2
    rw [← hk] at i1
    -- what lies where the round begins
    have nB : ¬ (S Bb ∨ Bb = H + 1 ∨ Bb = H + 2) := by
      rintro (h | h | h)
      · exact (hS _ h).2 (.inl rfl)
      · omega
      · omega
    have nH : ¬ (S H ∨ H = H + 1 ∨ H = H + 2) := by
      rintro (h | h | h)
      · have := hSH _ h; omega
      · omega
      · omega
    have nA : 0 < b.length → ¬ (S a.block ∨ a.block = H + 1 ∨ a.block = H + 2) := by
      rintro h0 (h | h | h)
      · exact (hS _ h).2 (.inr ⟨h0, a, rfl, rfl⟩)
      · have := hab _ h0 ⟨a, rfl, rfl⟩; omega
      · have := hab _ h0 ⟨a, rfl, rfl⟩; omega
    have b0 := hB0.out ho nH
    have bb := (hB.past hb0).out ho nB
    have hrd : Rd W1 W1.heap.size (some a) b := by
      have h0 : 0 < b.length := by rw [hb]; omega
      exact (rd_out ((hr.below hb0).more hb0.size) (Nat.le_refl _) ho (fun a' e => by injection e with e; subst e; exact nA h0)).more ho.size
    have hWW : Below W.heap.size W W0 := hb0
    -- behind 'number++'
    obtain ⟨W2, hW2⟩ : ∃ W2, W1.setCell ⟨H + 1, 0, none⟩ (.int .i64 ((k : Int) + 1)) = W2 := ⟨_, rfl⟩
    have o12 : Out (fun k => S k ∨ k = H + 1 ∨ k = H + 2) W1 W2 := by rw [← hW2]; exact (Out.refl _ _).setCell (.inl (.inr (.inl rfl))) _
    have d0 : Blk W2 H [.func (.yield l) #[] #[]] := b0.out o12 nH
    have db : Blk W2 Bb [.slice (some a) n c] := bb.out o12 nB
    have d1 : Blk W2 (H + 1) [.int .i64 ((k : Int) + 1)] := by rw [← hW2]; exact i1.set 0 _
    have d2 : Blk W2 (H + 2) [.int .i64 (s : Int)] := by rw [← hW2]; exact i2.other (show H + 1 ≠ H + 2 by omega) _
    have dr : Rd W2 W2.heap.size (some a) b := by
      have h0 : 0 < b.length := by rw [hb]; omega
      exact (rd_out hrd (Nat.le_refl _) o12 (fun a' e => by injection e with e; subst e; exact nA h0)).more o12.size
    have I3 := Lib.hid (hJ _ W1 W2 (some (H + 1)) i3 (by rw [← hW2]; exact grownBy_setCell' W1 (H + 1) _) (fun r e => by cases e; exact hWH _ (by omega)))
    have HO := Lib.hid ho
    have HS := Lib.hid hs
    have HK := Lib.hid hk
    have HX := Lib.hid hX
    have HO2 := Lib.hid o12
    have D := Lib.hid (And.intro d0 (And.intro db (And.intro d1 (And.intro d2 dr))))
    have x0 : W1.cell? ⟨H + 1, 0, none⟩ = some (.int .i64 (k : Int)) := i1.cell (i := 0) rfl
    have x1 : W1.frozen? ⟨H + 1, 0, none⟩ = false := i1.frozen 0
    have ew : wrap64 ((k : Int) + 1) = (k : Int) + 1 := by unfold wrap64; omega
    have HY0 := Lib.hid hy0
    have HT := Lib.hid (And.intro ht hc')
    have HC63 := Lib.hid (And.intro hc63 hn30)
    clear hc63 hn30
    clear i1 i2 i3 ho hs hk hX o12 d0 db d1 d2 dr b0 bb hrd hB hr hB0 hB1 hB2 hB3 hJ0 hb0 hy0 ht hc' nB nH nA hab
    refine wpIn_block (wpIn_seq_k fun K1 hK1 => ?_)
    have HK1 := Lib.hid hK1
    clear hK1
    gi_wp2
    refine HK1.out _ _ (wpIn_seq_k fun K2 hK2 => wpIn_seq_k fun K3 hK3 => ?_)
    obtain ⟨d0, db, d1, d2, dr⟩ := D.out
    have y0 : W2.cell? ⟨H, 0, none⟩ = some (.func (.yield l) #[] #[]) := d0.cell (i := 0) rfl
    have yb : W2.cell? ⟨Bb, 0, none⟩ = some (.slice (some a) n c) := db.cell (i := 0) rfl
    have y1 : W2.cell? ⟨H + 1, 0, none⟩ = some (.int .i64 ((k : Int) + 1)) := d1.cell (i := 0) rfl
    have y2 : W2.cell? ⟨H + 2, 0, none⟩ = some (.int .i64 (s : Int)) := d2.cell (i := 0) rfl
    obtain ⟨ht, hc'⟩ := HT.out
    refine Gw.wpIn_region_tail 7 (lcG H Bb l n c s x (k + 1) t c' a y) [11, 12, 13, 14, 15, 16, 17] [([2], none), ([3], none), ([1], none), ([4], none), ([5], none), ([13, 14, 15], none), ([16], none)] 22 (by kernel_rfl) (by kernel_rfl) rfl ?h0 ?hreq rfl ?hend
    case h0 =>
      intro t W hnd _
      unfold lcG
      split <;> first | rfl | trivial | exact absurd (by simp) hnd
    case hreq =>
      refine ⟨?_, ?_, ?_, ?_, ?_, ?_, ?_, trivial⟩
      all_goals
        intro ac W3 hg hk
        have hg' : Below W2.heap.size W2 W3 := hg
        have z0 := (hg'.cell (World.block_lt_of_cell? _ _ y0)).trans y0
        have zb := (hg'.cell (World.block_lt_of_cell? _ _ yb)).trans yb
        have z1 := (hg'.cell (World.block_lt_of_cell? _ _ y1)).trans y1
        have z2 := (hg'.cell (World.block_lt_of_cell? _ _ y2)).trans y2
        simp only [Gw.Knows, lcG] at hk
        try (simp [go_sem, Gw.OpReq, Gw.Ok, Gw.Post, Gw.Holds, lcG, Gw.Grows.refl, hk, z0, zb, z1, z2]; done)
      · have e1 : (s : Int) ≤ (x : Int) := by omega
        have e2 : (x : Int) ≤ (c : Int) := by omega
        have e3 : ((x : Int) - (s : Int)) = (t : Int) := by omega
        have e4 : ¬ c = s := by omega
        have e5 : c - s = c' := hc'.symm
        have e6 : x - s = t := ht.symm
        simp [go_sem, Gw.OpReq, Gw.Ok, Gw.Post, Gw.Holds, lcG, Gw.Grows.refl, hk, e1, e2, e3, e4, e5, e6]
      · have hrd : Rd W3 W3.heap.size (some (a.add s)) y := by
          have h1 := ((dr.below hg').more hg'.size).drop (k := s) (cap := c) (by omega)
          rw [if_neg (by omega)] at h1
          rw [HY0.out]
          exact h1.take _
        have e1 := str_any (some (a.add s)) t c' y W3 _ hyl hrd
        simp [go_sem, Gw.OpReq, Gw.Ok, Gw.Post, Gw.Holds, lcG, Gw.Grows.refl, hk, e1]
    case hend =>
      intro xs W3 hg hx
      have hg' : Below W2.heap.size W2 W3 := hg
      have v11 := (hx 11 (by simp)).now
      have v12 := (hx 12 (by simp)).now
      have v17 := (hx 17 (by simp)).now
      simp only [lcG] at v11 v12 v17
      clear hx
      simp only [Gw.putAll, Act.put, List.setIfInBounds_toArray, List.set_cons_zero, List.set_cons_succ]
      rw [v11, v12, v17]
      have hsplit : numG 1 (linesG [] b) = numG 1 (cutS b 0 pre) ++ (k + 1, y) :: numG (k + 1 + 1) (cutS b (x + 1) post) := by
        rw [lines_eq, HX.out, cutS_append, numG_append, cutS_length, ← HK.out, ← HS.out, cutS, numG, ← HY0.out, Nat.add_comm 1 k]
      have how : Out S W W3 := ((((Out.of_below hWW).trans' HO.out (fun j hj => by
        rcases hj with h | h | h
        · exact .inl h
        · exact .inr (hWH _ (by omega))
        · exact .inr (hWH _ (by omega)))).trans' HO2.out (fun j hj => by
        rcases hj with h | h | h
        · exact .inl h
        · exact .inr (hWH _ (by omega))
        · exact .inr (hWH _ (by omega)))).trans (Out.of_below hg'))
      have hj3 : J (numG 1 (cutS b 0 pre)) W3 := hJ _ W2 W3 none I3.out (grown_below hg' none) (fun r e => by cases e)
      obtain ⟨fn, tmps, assign, body, hy, hRo⟩ := hY _ (k + 1, y) _ W3 hsplit how hj3
      have hsn : numG 1 (cutS b 0 pre) ++ [(k + 1, y)] = numG 1 (cutS b 0 (pre ++ [x])) := by
        rw [cutS_append, numG_append, cutS_length, ← HK.out, ← HS.out, cutS, cutS, numG, numG, ← HY0.out, Nat.add_comm 1 k]
      rw [hsn] at hRo
      have hst : stOf 0 (pre ++ [x]) = x + 1 := stOf_snoc pre x 0
      have hln : (pre ++ [x]).length = k + 1 := by rw [List.length_append, ← HK.out]; rfl
      have e1 : Blk W3 (H + 1) [.int .i64 ((k : Int) + 1)] := d1.past hg'
      have e2 : Blk W3 (H + 2) [.int .i64 (s : Int)] := d2.past hg'
      have o13 : Out (fun k => S k ∨ k = H + 1 ∨ k = H + 2) W1 W3 := HO2.out.trans (.of_below hg')
      dsimp only [encL] at hy
      simp only [Int.natCast_add, Int.natCast_one] at hy
      simp only [List.drop, Gw.seqTailI]
      have hR2 : RoundIn Fence.wide 1 Tryd.prog l fn tmps assign body W3 fun e W4 => ∃ v, e = .returned v ∧ (Out S W3 W4 ∧ ((v = .bool true ∧ J (numG 1 (cutS b 0 (pre ++ [x]))) W4) ∨ (v = .bool false ∧ Jx (numG 1 (cutS b 0 (pre ++ [x]))) W4))) := hRo.mono fun e W4 h => by
        obtain ⟨h1, ⟨rfl, h2⟩ | ⟨rfl, h2⟩⟩ := h
        · exact ⟨_, rfl, h1, .inl ⟨rfl, h2⟩⟩
        · exact ⟨_, rfl, h1, .inr ⟨rfl, h2⟩⟩
      refine Gw.OkO.round (by intro c h; cases h) (l' := l) (m := 1) (by simp [go_sem, hy]) hR2 _ _ ?_
      rintro v W4 ⟨ho4, ⟨rfl, hj4⟩ | ⟨rfl, hj4⟩⟩
      · have f1 : Blk W4 (H + 1) [.int .i64 ((k : Int) + 1)] := e1.out ho4 (fun h => by have := hSH _ h; omega)
        have f2 : Blk W4 (H + 2) [.int .i64 (s : Int)] := e2.out ho4 (fun h => by have := hSH _ h; omega)
        have o14 : Out (fun k => S k ∨ k = H + 1 ∨ k = H + 2) W1 W4 := o13.trans (ho4.more fun k _ h => .inl h)
        have q1 : W4.frozen? ⟨H + 2, 0, none⟩ = false := f2.frozen 0
        have q0 : W4.cell? ⟨H + 2, 0, none⟩ = some (.int .i64 (s : Int)) := f2.cell (i := 0) rfl
        have ew2 : wrap64 ((x : Int) + 1) = (x : Int) + 1 := by have := HC63.out; unfold wrap64; omega
        have FIN := Lib.hid (show Ro.postO (fun k => S k ∨ k = H + 1 ∨ k = H + 2) (fun pre W' => Blk W' (H + 1) [.int .i64 (pre.length : Int)] ∧ Blk W' (H + 2) [.int .i64 (stOf 0 pre : Int)] ∧ J (numG 1 (cutS b 0 pre)) W') (fun c pre W' => c = .ret ∧ Jx (numG 1 (cutS b 0 pre)) W') (pre ++ [x]) W1 .normal { tmps := #[], defers := [] } (W4.setCell ⟨H + 2, 0, none⟩ (.int .i64 ((x : Int) + 1))) from by
          refine ⟨o14.setCell (p := ⟨H + 2, 0, none⟩) (.inl (.inr (.inr rfl))) _, ?_, ?_, ?_⟩
          · have := f1.other (p := ⟨H + 2, 0, none⟩) (show H + 2 ≠ H + 1 by omega) (.int .i64 ((x : Int) + 1))
            rw [hln]; exact this
          · have := f2.set 0 (.int .i64 ((x : Int) + 1))
            rw [hst]; exact this
          · exact hJ _ W4 _ (some (H + 2)) hj4 (grownBy_setCell' W4 (H + 2) _) (fun r e => by cases e; exact hWH _ (by omega)))
        clear f1 f2 o14 hj4 e1 e2 o13 hy hR2 hRo hsplit hsn how hj3 hln hst
        simp [go_sem, Gw.seqTailI]
        refine hK3 _ _ ?_
        gi_wp2
        exact FIN.out
      · have FIN := Lib.hid (show Out (fun k => S k ∨ k = H + 1 ∨ k = H + 2) W1 W4 ∧ Jx (numG 1 (cutS b 0 (pre ++ [x]))) W4 from ⟨o13.trans (ho4.more fun k _ h => .inl h), hj4⟩)
        clear hj4 e1 e2 o13 hy hR2 hRo hsplit hsn how hj3 hln hst
        simp [go_sem, Gw.seqTailI]
        refine hK3 _ _ ?_
        gi_wp2
        exact ⟨FIN.out.1, rfl, FIN.out.2⟩
  case done =>
    rintro D W1 hD ho ⟨-, -, i3⟩ hK
    have hlt := (Array.getElem?_eq_some_iff.1 hK).1
    have oD : Out (fun k => k = D) W1 (W1.putObj D (.deferred none)) := Out.of_grown (grownBy_putObj' _ _ _) (fun k e _ => by injection e with e; exact e.symm)
    have hjD : J (numG 1 (cutS b 0 (endsS 0 false b))) (W1.putObj D (.deferred none)) := hJ.putObj _ i3 (hWH _ (by omega))
    rw [← lines_eq] at hjD
    have how : Out S W (W1.putObj D (.deferred none)) := ((Out.of_below hb0).trans' ho (fun j hj => by
        rcases hj with h | h | h
        · exact .inl h
        · exact .inr (hWH _ (by omega))
        · exact .inr (hWH _ (by omega)))).trans' oD (fun j hj => .inr (hWH _ (by have hj : j = D := hj; omega)))
    have FIN := Lib.hid (And.intro how hjD)
    have HK := Lib.hid hK
    clear ho i3 hK oD hjD how
    gi_wp2
    refine ⟨by simp, .inl ⟨_, _, rfl, run_takeDeferred HK.out, ?_⟩⟩
    exact ⟨_, results_none rfl _ _ _, ⟨_, rfl⟩, FIN.out.1, .inl FIN.out.2⟩
  case stop =>
    rintro D cc pre post W1 hD ho hX ⟨rfl, i3⟩ hK
    have oD : Out (fun k => k = D) W1 (W1.putObj D (.deferred none)) := Out.of_grown (grownBy_putObj' _ _ _) (fun k e _ => by injection e with e; exact e.symm)
    have hjD : Jx (numG 1 (cutS b 0 pre)) (W1.putObj D (.deferred none)) := hJx.putObj _ i3 (hWH _ (by omega))
    have hsp : numG 1 (linesG [] b) = numG 1 (cutS b 0 pre) ++ numG (1 + pre.length) (cutS b (stOf 0 pre) post) := by
      rw [lines_eq, hX, cutS_append, numG_append, cutS_length]
    have how : Out S W (W1.putObj D (.deferred none)) := ((Out.of_below hb0).trans' ho (fun j hj => by
        rcases hj with h | h | h
        · exact .inl h
        · exact .inr (hWH _ (by omega))
        · exact .inr (hWH _ (by omega)))).trans' oD (fun j hj => .inr (hWH _ (by have hj : j = D := hj; omega)))
    have FIN := Lib.hid (And.intro how (And.intro hsp hjD))
    have HK := Lib.hid hK
    clear ho i3 hK oD hjD how hsp hX
    gi_wp2
    refine ⟨by simp, .inl ⟨_, _, rfl, run_takeDeferred HK.out, ?_⟩⟩
    exact ⟨_, results_none rfl _ _ _, ⟨_, rfl⟩, FIN.out.1, .inr ⟨_, _, FIN.out.2.1, FIN.out.2.2⟩⟩

/-- Lines(b) gives b's lines, with their numbers. -/
theorem lines_gives (Bb : Nat) (A : Option Addr) (n c : Nat) (b : List UInt8) (hb : b.length = n) (hnc : n ≤ c) (hc63 : c ≤ 9223372036854775807) (hn30 : n ≤ 1073741824) (w : World) (hB : Blk w Bb [.slice A n c]) (hr : Rd w w.heap.size A b) :
    Ro.Gives Tryd.prog 32 #[.pointer (some ⟨Bb, 0, none⟩)] encL (numG 1 (linesG [] b)) (MemB Bb A b) w := fun n' l S J Jx W hW hS hJ hJx hY h0 =>
  callsIn_any (lines_in l Bb A n c b hb hnc hc63 hn30 S J Jx W hS hJ hJx hY (hB.past hW) ((hr.below hW).more hW.size) h0)
end Go.Proofs.YtbedepnmgnlijaaDoor
