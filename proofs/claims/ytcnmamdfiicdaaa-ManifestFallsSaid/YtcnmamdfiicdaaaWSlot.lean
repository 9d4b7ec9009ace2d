/- A slot is written: sixteen blocks, then all is synced. -/
import Derived.Test.YtcnmamdfiicdaaaChunk
import Derived.Test.YtcnmamdfiicdaaaAgree
namespace Go.Proofs.Ytcnmamdfiicdaaa
open Go.RowKit Me Mf Rw Ds

theorem chunk_any (A : Option Addr) (n c : Nat) (w : World) :
    Calls Try.prog 72 #[.slice A n c, .int .i64 128] w fun e w' => e = .returned (.func (.func 91) #[] #[.pointer (some ⟨w.heap.size, 0, none⟩), .pointer (some ⟨w.heap.size + 1, 0, none⟩)]) ∧ w' = (w.alloc (.cells #[.slice A n c] 22)).alloc (.cells #[.int .i64 128] 3) := by
  go_enter Try.func72, Try.ntmps72
  go_wp2
  go_ret
  exact ⟨rfl, rfl⟩
theorem chunk_stops (n : Nat) (hn : 1 ≤ n) (Bs Bn g c : Nat) (hc : 2048 ≤ c) (hc63 : c ≤ 9223372036854775807) (w : World) (hs : w.cell? ⟨Bs, 0, none⟩ = some (.slice (some ⟨g, 0, none⟩) 2048 c)) (hb : w.cell? ⟨Bn, 0, none⟩ = some (.int .i64 128)) :
    SeqStopsK Fence.wide n Try.prog 91 #[.pointer (some ⟨Bs, 0, none⟩), .pointer (some ⟨Bn, 0, none⟩)] (encC g) (KB Bs Bn) (fun ys => ys.map (·.val) = List.range 16) (fun pre => ∃ k, k ≤ 16 ∧ pre.map (·.val) = List.range k) 16 w := fun l J Jx W hW hJ _ hY h0 =>
  chunk1_in n hn l Bs Bn g c hc hc63 J Jx (fun pre W W' hj hB => hJ pre W W' none hj (grown_below hB none) (fun r e => by cases e)) hY W
    ((hW.cell (p := ⟨Bs, 0, none⟩) (World.block_lt_of_cell? _ _ hs)).trans hs) ((hW.cell (p := ⟨Bn, 0, none⟩) (World.block_lt_of_cell? _ _ hb)).trans hb) h0
/-- A block of a slot's bytes. -/
def chunkL (l : List UInt8) (k : Nat) : List UInt8 := (l.drop (128 * k)).take 128
theorem chunkL_length {l : List UInt8} (hl : l.length = 2048) {k : Nat} (hk : k < 16) : (chunkL l k).length = 128 := by
  unfold chunkL; rw [List.length_take, List.length_drop, hl]; omega
/-- The disk behind the first blocks of a slot, the error. -/
def stD (S : Dsk) (n : Nat) (l : List UInt8) : Nat → Dsk × Int
  | 0 => (S, 0)
  | k + 1 => if (stD S n l k).2 = 0 then writeD (stD S n l k).1 ((16 * n + k : Nat) : Int) (chunkL l k) else stD S n l k
def wslotD (S : Dsk) (n : Nat) (l : List UInt8) : Dsk × Int := if (stD S n l 16).2 = 0 then syncD (stD S n l 16).1 else stD S n l 16
theorem stD_stuck {S : Dsk} {n : Nat} {l : List UInt8} {k : Nat} (h : (stD S n l k).2 ≠ 0) : ∀ j, k ≤ j → stD S n l j = stD S n l k := by
  intro j hj
  induction j with
  | zero => rw [show k = 0 by omega]
  | succ j ih =>
    by_cases e : k = j + 1
    · rw [e]
    · have := ih (by omega)
      rw [stD, this, if_neg h]
theorem writeD_pend (S : Dsk) (i : Int) (l : List UInt8) : (writeD S i l).1.pend.length ≤ S.pend.length + 1 := by
  unfold writeD
  repeat' split
  all_goals simp [(power_pend S).1]
theorem stD_pend (S : Dsk) (n : Nat) (l : List UInt8) : ∀ k, (stD S n l k).1.pend.length ≤ S.pend.length + k
  | 0 => Nat.le_refl _
  | k + 1 => by
    have h := stD_pend S n l k
    rw [stD]
    split
    · have := writeD_pend (stD S n l k).1 ((16 * n + k : Nat) : Int) (chunkL l k)
      omega
    · omega
theorem DiskAt.cells {w : World} {B D : Nat} {S : Dsk} {own : Nat → Prop} (h : DiskAt w B D S own) {k : Nat} (hk : own k) : ∃ o : Obj, w.heap[k]? = some o ∧ o.isCells = true := by
  obtain ⟨g, Pv, h⟩ := h
  rcases (h.own k).1 hk with rfl | rfl | hk
  · obtain ⟨t, e⟩ := h.blk; exact ⟨_, e, rfl⟩
  · obtain ⟨t, e⟩ := h.rows; exact ⟨_, e, rfl⟩
  · obtain ⟨-, ⟨e, -⟩ | ⟨g', cap, cur, e, -, hg, -⟩⟩ := h.pend
    · rw [e] at hk; cases hk
    · rw [e] at hk; injection hk with hk; subst hk; exact ⟨_, hg, rfl⟩
/-- The same, by the blocks that were handed on. -/
def stepD (n : Nat) (l : List UInt8) (p : (Dsk × Int) × Nat) (x : Fin 16) : (Dsk × Int) × Nat :=
  (if p.1.2 = 0 then writeD p.1.1 ((16 * n + p.2 : Nat) : Int) (chunkL l x.val) else p.1, p.2 + 1)
def stL (S : Dsk) (n : Nat) (l : List UInt8) (pre : List (Fin 16)) : (Dsk × Int) × Nat := pre.foldl (stepD n l) ((S, 0), 0)
theorem stL_snoc (S : Dsk) (n : Nat) (l : List UInt8) (pre : List (Fin 16)) (x : Fin 16) : stL S n l (pre ++ [x]) = stepD n l (stL S n l pre) x := by unfold stL; rw [List.foldl_append]; rfl
theorem stL_two (S : Dsk) (n : Nat) (l : List UInt8) : ∀ (k : Nat) (pre : List (Fin 16)), pre.map (·.val) = List.range k → stL S n l pre = (stD S n l k, k)
  | 0, pre, h => by
    have : pre = [] := by cases pre with | nil => rfl | cons x l => simp at h
    subst this; rfl
  | k + 1, pre, h => by
    rw [List.range_succ] at h
    obtain ⟨a, b, rfl, ha, hb⟩ := List.map_eq_append_iff.1 h
    match b, hb with
    | [x], hb =>
      simp at hb
      rw [stL_snoc, stL_two S n l k a ha]
      unfold stepD
      rw [hb]
      rfl
theorem stL_len (S : Dsk) (n : Nat) (l : List UInt8) (pre : List (Fin 16)) : (stL S n l pre).2 = pre.length ∧ (stL S n l pre).1.1.pend.length ≤ S.pend.length + pre.length := by
  suffices h : ∀ (pre : List (Fin 16)) (p : (Dsk × Int) × Nat), (pre.foldl (stepD n l) p).2 = p.2 + pre.length ∧ (pre.foldl (stepD n l) p).1.1.pend.length ≤ p.1.1.pend.length + pre.length by
    have := h pre ((S, 0), 0)
    unfold stL
    exact ⟨by rw [this.1]; simp, this.2⟩
  intro pre
  induction pre with
  | nil => intro p; exact ⟨rfl, Nat.le_refl _⟩
  | cons x pre ih =>
    intro p
    obtain ⟨h1, h2⟩ := ih (stepD n l p x)
    rw [List.foldl_cons, List.length_cons]
    refine ⟨by rw [h1]; unfold stepD; simp; omega, ?_⟩
    have : (stepD n l p x).1.1.pend.length ≤ p.1.1.pend.length + 1 := by
      unfold stepD
      simp only
      split
      · exact writeD_pend _ _ _
      · omega
    omega
/-- What stands while a slot is written. -/
structure WSt (w : World) (B D : Nat) (S : Dsk) (own : Nat → Prop) (r a : Int) (W : World) : Prop where
  disk : ∃ own', DiskAt W B D S own' ∧ ∀ j, own' j → own j ∨ w.heap.size + 5 ≤ j
  out : Out own w W
  bd : Blk W w.heap.size [.pointer (some ⟨D, 0, none⟩)]
  br : Blk W (w.heap.size + 1) [.int .i64 r]
  ba : Blk W (w.heap.size + 2) [.int .i64 a]
theorem WSt.turn {w : World} {B D : Nat} {S : Dsk} {own : Nat → Prop} {r a : Int} {X Y : World} {row : Option Nat} (h : WSt w B D S own r a X) (hg : X.grownBy Y row) (hr : ∀ k, row = some k → w.heap.size + 5 ≤ k ∧ ∃ o : Obj, X.heap[k]? = some o ∧ o.isCells = false) : WSt w B D S own r a Y := by
  obtain ⟨own', h1, h2⟩ := h.disk
  have ho : Out (fun k => row = some k) X Y := Out.of_grown hg fun k e _ => e
  refine ⟨⟨own', h1.out ho fun k hk e => ?_, h2⟩, h.out.grown hg fun k e => .inr (by have := (hr k e).1; omega), h.bd.grown hg ?_, h.br.grown hg ?_, h.ba.grown hg ?_⟩
  · obtain ⟨o, e1, e2⟩ := h1.cells hk
    obtain ⟨-, o', e3, e4⟩ := hr k e
    rw [e1] at e3
    injection e3 with e3
    subst e3
    rw [e2] at e4
    cases e4
  all_goals
    intro e
    have := (hr _ e).1
    omega

attribute [local go_sem] Oper.semAt_some
set_option maxRecDepth 100000 in
set_option maxHeartbeats 2000000 in
theorem wslot_any {w : World} {B D : Nat} {S : Dsk} {own : Nat → Prop} (h : DiskAt w B D S own) (n : Nat) (hn : n ≤ 1) (g c : Nat) (l : List UInt8) (hl : l.length = 2048) (hc : 2048 ≤ c) (hc63 : c ≤ 9223372036854775807) (hr : Cz w own (some ⟨g, 0, none⟩) (cellsOf l)) (hp : S.pend.length + 16 ≤ 1073741824) :
    Calls Try.prog 44 #[.pointer (some ⟨D, 0, none⟩), .int .i64 (n : Int), .slice (some ⟨g, 0, none⟩) 2048 c] w fun e w' => e = .returned (.int .i64 (wslotD S n l).2) ∧ DPost w B D (wslotD S n l).1 own w' := by
  refine (callsIn_wide (n := 3)).1 ?_
  obtain ⟨H, hH⟩ : ∃ H, H = w.heap.size := ⟨_, rfl⟩
  obtain ⟨W0, hW0⟩ : ∃ W0, (((((w.alloc (.cells #[.pointer (some ⟨D, 0, none⟩)] 44)).alloc (.cells #[.int .i64 0] 29)).alloc (.cells #[.int .i64 (16 * (n : Int))] 3)).alloc (.cells #[.slice (some ⟨g, 0, none⟩) 2048 c] 22)).alloc (.cells #[.int .i64 128] 3)) = W0 := ⟨_, rfl⟩
  have hsz : W0.heap.size = H + 5 := by rw [← hW0, hH]; simp
  have hb0 : Below w.heap.size w W0 := by
    rw [← hW0]; exact (((((Below.refl _ w).alloc (Nat.le_refl _) _).alloc (by simp) _).alloc (by simp; omega) _).alloc (by simp; omega) _).alloc (by simp; omega) _
  have hB0 : Blk W0 H [.pointer (some ⟨D, 0, none⟩)] := by
    rw [← hW0, hH]; exact ((((Blk.new w [.pointer (some ⟨D, 0, none⟩)] _).alloc _).alloc _).alloc _).alloc _
  have hB1 : Blk W0 (H + 1) [.int .i64 0] := by
    rw [← hW0, hH]; exact (((Blk.new' (w.alloc _) [.int .i64 0] _ (by simp)).alloc _).alloc _).alloc _
  have hB2 : Blk W0 (H + 2) [.int .i64 (16 * (n : Int))] := by
    rw [← hW0, hH]; exact ((Blk.new' ((w.alloc _).alloc _) [.int .i64 (16 * (n : Int))] _ (by simp)).alloc _).alloc _
  have hB3 : Blk W0 (H + 3) [.slice (some ⟨g, 0, none⟩) 2048 c] := by
    rw [← hW0, hH]; exact (Blk.new' (((w.alloc _).alloc _).alloc _) [.slice (some ⟨g, 0, none⟩) 2048 c] _ (by simp)).alloc _
  have hB4 : Blk W0 (H + 4) [.int .i64 128] := by
    rw [← hW0, hH]; exact Blk.new' ((((w.alloc _).alloc _).alloc _).alloc _) [.int .i64 128] _ (by simp)
  have HD := Lib.hid h
  have HF := Lib.hid (show WSt w B D S own 0 (16 * (n : Int)) W0 from ⟨⟨own, h.past hb0, fun j hj => .inl hj⟩, .of_below hb0, by rw [← hH]; exact hB0, by rw [← hH]; exact hB1, by rw [← hH]; exact hB2⟩)
  have HB3 := Lib.hid hB3
  have HB4 := Lib.hid hB4
  have HR := Lib.hid hr
  have HL := Lib.hid hl
  have HW0 := Lib.hid hW0
  have HH := Lib.hid hH
  have emul : (n : Int) * 16 = 16 * (n : Int) := by omega
  clear h hb0 hB0 hB1 hB2 hB3 hB4 hr hl hW0 hH
  refine callsIn_of_wp_marks Try.func44 rfl trivial ?_ rfl
  simp only [Try.ntmps44, List.size_toArray, List.length_cons, List.length_nil, Nat.reduceAdd, Nat.reduceSub, Array.replicate_succ, Array.replicate_zero, List.push_toArray, List.append_toArray, List.nil_append, List.cons_append]
  gi_wp2_with ((refine ⟨trivial, ?_⟩); (refine (callsIn_wide.2 (chunk_any _ _ _ _)).mono ?_); rintro e w' ⟨rfl, rfl⟩)
  rw [HW0.out, ← HH.out]
  rw [show H + 1 + 1 + 1 + 1 = H + 4 from rfl, show H + 1 + 1 + 1 = H + 3 from rfl, show H + 1 + 1 = H + 2 from rfl]
  clear HW0
  refine wpIn_rangeFunc_ownH rfl (by omega) (gf := 91) (lb := #[.pointer (some ⟨H + 3, 0, none⟩), .pointer (some ⟨H + 4, 0, none⟩)]) rfl trivial (enters_of Try.func91 (by kernel_rfl) rfl)
    (w0 := W0) (chunk_stops 2 (by omega) (H + 3) (H + 4) g c hc hc63 W0 (HB3.out.cell (i := 0) rfl) (HB4.out.cell (i := 0) rfl)) (fun h k => KB.trans h k) (fun W l o o' hl _ _ _ => KB.put (n := H + 5) (by omega) (by omega) W l o' (by rw [← hsz]; exact hl)) (Below.refl _ _) (fun _ => rfl)
    (fun pre W => (stL S n l pre).1.2 = 0 ∧ WSt w B D (stL S n l pre).1.1 own 0 (16 * (n : Int) + (pre.length : Int)) W)
    (fun c pre W => c = .ret ∧ (stL S n l pre).1.2 ≠ 0 ∧ WSt w B D (stL S n l pre).1.1 own (stL S n l pre).1.2 (16 * (n : Int) + (pre.length : Int) - 1) W)
    (fun s X Y row hs hg hr => ⟨hs.1, hs.2.turn hg fun k e => ⟨by have := (hr k e).1; have := HH.out; omega, (hr k e).2⟩⟩)
    (fun c s X Y row hs hg hr => ⟨hs.1, hs.2.1, hs.2.2.turn hg fun k e => ⟨by have := (hr k e).1; have := HH.out; omega, (hr k e).2⟩⟩)
    ⟨rfl, HF.out⟩
    (fun x a' W => a' = { tmps := #[.pointer (some ⟨D, 0, none⟩), .int .i64 (n : Int), .slice (some ⟨g, 0, none⟩) 2048 c, .pointer (some ⟨H, 0, none⟩), undef, undef, .pointer (some ⟨H + 1, 0, none⟩), .pointer (some ⟨H + 2, 0, none⟩), .slice (some ⟨g, 128 * x.val, none⟩) 128 128, undef, .int .i64 (n : Int), .int .i64 (16 * (n : Int)), .slice (some ⟨g, 0, none⟩) 2048 c, .func (.func 91) #[] #[.pointer (some ⟨H + 3, 0, none⟩), .pointer (some ⟨H + 4, 0, none⟩)], .slice (some ⟨g, 128 * x.val, none⟩) 128 128, undef, undef, undef, undef, undef, undef, undef, undef, undef, undef, undef], defers := [] })
    (fun x a' _ X Y row hs hg hr => hs)
    ?assign ?body ?done ?stop
  case assign =>
    rintro l' pre x W K hI hK
    dsimp only [encC]
    gi_wp2
    exact hK _ _ (KeepsFrom.refl _ _) (fun _ _ => rfl) hI rfl
  case body =>
    rintro l' pre x a' W hl' ⟨rr, hrr⟩ ⟨hz, hst⟩ rfl hlt
    obtain ⟨own', hd, hn2⟩ := hst.disk
    obtain ⟨hlen, hpen⟩ := stL_len S n l pre
    have x0 : W.cell? ⟨H, 0, none⟩ = some (.pointer (some ⟨D, 0, none⟩)) := by rw [HH.out]; exact hst.bd.cell rfl
    have x2 : W.cell? ⟨H + 2, 0, none⟩ = some (.int .i64 (16 * (n : Int) + (pre.length : Int))) := by rw [HH.out]; exact hst.ba.cell rfl
    obtain ⟨S', hS'⟩ : ∃ S', S' = (stL S n l pre).1.1 := ⟨_, rfl⟩
    rw [← hS'] at hd hpen
    have hsn : stL S n l (pre ++ [x]) = (writeD S' ((16 * n + pre.length : Nat) : Int) (chunkL l x.val), pre.length + 1) := by
      rw [stL_snoc]; unfold stepD; rw [hlen, if_pos hz, ← hS']
    obtain ⟨i, hi⟩ : ∃ i : Int, i = 16 * (n : Int) + (pre.length : Int) := ⟨_, rfl⟩
    have hie : ((16 * n + pre.length : Nat) : Int) = i := by omega
    rw [hie] at hsn
    rw [← hi] at x2
    have hcz : Cz W own' (some ⟨g, 128 * x.val, none⟩) (cellsOf (chunkL l x.val)) := fun _ => by
      have hcl := cellsOf_length l
      obtain ⟨q, e, q1, q2, q3⟩ := HR.out (by rw [hcl, HL.out]; omega)
      injection e with e
      subst e
      have hx := x.isLt
      refine ⟨_, rfl, Nat.lt_of_lt_of_le q1 hst.out.size, fun hg => ?_, fun j v hv => ?_⟩
      · rcases hn2 g hg with h | h
        · exact q2 h
        · have : g < w.heap.size := q1
          omega
      · have hj := (List.getElem?_eq_some_iff.1 hv).1
        rw [cellsOf_length, chunkL_length HL.out hx] at hj
        have := q3 (128 * x.val + j) v (by
          rw [← hv]
          unfold chunkL cellsOf
          rw [List.getElem?_map, List.getElem?_map, List.getElem?_take, if_pos hj, List.getElem?_drop])
        rw [Addr.add_mid, Nat.zero_add] at this
        rw [Addr.add_mid]
        exact (hst.out.cell (p := ⟨g, 128 * x.val + j, none⟩) q1 q2).trans this
    have HWR := Lib.hid (write_any hd i _ 128 128 (chunkL l x.val) (chunkL_length HL.out x.isLt) hcz (fun a e => by injection e with e; rw [← e]) (by omega))
    have HST := Lib.hid hst
    have HN2 := Lib.hid hn2
    have HD2 := Lib.hid hd
    have HSN := Lib.hid hsn
    have HI := Lib.hid hi
    have hw5 : H + 5 ≤ W.heap.size := by have := (Array.getElem?_eq_some_iff.1 hrr).1; omega
    have hi1 : -9223372036854775808 ≤ i ∧ i + 1 ≤ 9223372036854775807 := by omega
    have hn15 : ∀ j, own' j → j ≠ H + 2 ∧ j ≠ H + 1 ∧ j ≠ H ∧ j ≠ H + 3 ∧ j ≠ H + 4 := fun j hj => by
      have e0 := HH.out
      rcases hn2 j hj with h | h
      · have := (HD.out.lt h).2; omega
      · omega
    have HN15 := Lib.hid hn15
    clear hcz hst hn2 hd hz hlen hpen hsn hS' hi hie hn15
    gi_wp2_with ((refine ⟨trivial, ?_⟩); (refine (callsIn_wide.2 HWR.out).mono ?_))
    rintro e w1 ⟨rfl, own2, hd2, ho2, hn3⟩
    obtain ⟨p, hp⟩ : ∃ p, writeD S' i (chunkL l x.val) = p := ⟨_, rfl⟩
    obtain ⟨T, r⟩ := p
    rw [hp] at hd2 HSN ⊢
    have b0 := HST.out.bd.out ho2 (by rw [← HH.out]; exact fun h => (HN15.out _ h).2.2.1 rfl)
    have b1 := HST.out.br.out ho2 (by rw [← HH.out]; exact fun h => (HN15.out _ h).2.1 rfl)
    have b2 := HST.out.ba.out ho2 (by rw [← HH.out]; exact fun h => (HN15.out _ h).1 rfl)
    rw [← HH.out] at b0 b1 b2
    rw [← HI.out] at b2
    have HB0 := Lib.hid b0
    have HB1 := Lib.hid b1
    have HB2 := Lib.hid b2
    have HD3 := Lib.hid hd2
    have HO3 := Lib.hid ho2
    have HN3 := Lib.hid hn3
    have c1 := b1.cell (i := 0) rfl
    have f1 := b1.frozen 0
    have c2 := b2.cell (i := 0) rfl
    have f2 := b2.frozen 0
    have hs1 := ho2.size
    have HWS := Lib.hid (fun (q : Nat) (hq : q = H + 1 ∨ q = H + 2) (v : Value) => show (∀ k, own2 k → ¬ k = q) ∧ Out (fun k => own' k ∨ k = q) W (w1.setCell ⟨q, 0, none⟩ v) from
      ⟨fun k hk e => by
        rcases HN3.out k hk with h | h
        · have := HN15.out k h; omega
        · omega, (HO3.out.more (S' := fun k => own' k ∨ k = q) fun k _ h => .inl h).setCell (p := ⟨q, 0, none⟩) (.inl (.inr rfl)) v⟩)
    have HKF := Lib.hid (fun (q : Nat) (hq : q = H + 1 ∨ q = H + 2) (v : Value) => show KeepsFrom W0.heap.size W (w1.setCell ⟨q, 0, none⟩ v) from keepsFrom_out (HWS.out q hq v).2 (fun k hk => by
        rcases hk with h | rfl
        · exact HD2.out.cells h
        · rcases hq with rfl | rfl
          · obtain ⟨t, e⟩ := HST.out.br; rw [← HH.out] at e; exact ⟨_, e, rfl⟩
          · obtain ⟨t, e⟩ := HST.out.ba; rw [← HH.out] at e; exact ⟨_, e, rfl⟩))
    have HNX := Lib.hid (fun (q : Nat) (hq : q = H + 1 ∨ q = H + 2) (v : Value) (r' a' : Int) (hr : Blk (w1.setCell ⟨q, 0, none⟩ v) (H + 1) [.int .i64 r']) (ha : Blk (w1.setCell ⟨q, 0, none⟩ v) (H + 2) [.int .i64 a']) => show WSt w B D T own r' a' (w1.setCell ⟨q, 0, none⟩ v) from by
      have e0 := HH.out
      obtain ⟨h1, h2⟩ := HWS.out q hq v
      refine ⟨⟨own2, HD3.out.out ((Out.refl (fun k => k = q) w1).setCell (p := ⟨q, 0, none⟩) (.inl rfl) v) h1, fun j hj => ?_⟩, HST.out.out.trans' h2 (fun j hj => ?_), ?_, by rw [← e0]; exact hr, by rw [← e0]; exact ha⟩
      · rcases HN3.out j hj with h | h
        · exact HN2.out j h
        · right; omega
      · rcases hj with h | rfl
        · rcases HN2.out j h with h | h
          · exact .inl h
          · right; omega
        · right; omega
      · rw [← e0]
        exact HB0.out.other (p := ⟨q, 0, none⟩) (by show q ≠ H; omega) v)
    have HPL := Lib.hid (show (pre ++ [x]).length = pre.length + 1 by simp)
    clear hd2 ho2 hn3 b0 b1 b2 hp
    by_cases hr : r = 0
    · subst hr
      gi_wp2
      refine ⟨HKF.out _ (.inr rfl) _, fun p hp => ?_, ?_, ?_⟩
      · have e0 := HH.out
        refine (HWS.out (H + 2) (.inr rfl) _).2.cell ?_ ?_
        · rcases hp with h | h <;> omega
        · rintro (h | h)
          · have := HN15.out _ h; omega
          · omega
      · rw [HSN.out]
      · rw [HSN.out, HPL.out]
        exact HNX.out _ (.inr rfl) _ _ _ (HB1.out.other (p := ⟨H + 2, 0, none⟩) (by show H + 2 ≠ H + 1; omega) _) (by
          have := HB2.out.set 0 (.int .i64 (16 * (n : Int) + ((pre.length + 1 : Nat) : Int)))
          have e : i + 1 = 16 * (n : Int) + ((pre.length + 1 : Nat) : Int) := by have := HI.out; omega
          rw [e]
          exact this)
    · have d1 : (r != 0) = true := by rw [bne_iff_ne]; exact hr
      gi_wp2
      refine ⟨HKF.out _ (.inl rfl) _, rfl, ?_, ?_⟩
      · rw [HSN.out]; exact hr
      · rw [HSN.out, HPL.out]
        exact HNX.out _ (.inl rfl) _ _ _ (HB1.out.set 0 (.int .i64 r)) (by
          have := HB2.out.other (p := ⟨H + 1, 0, none⟩) (by show H + 1 ≠ H + 2; omega) (.int .i64 r)
          have e : 16 * (n : Int) + ((pre.length + 1 : Nat) : Int) - 1 = i := by have := HI.out; omega
          rw [e]
          exact this)
  case done =>
    rintro Dk ys W hDk hS ⟨hz, hst⟩ hK
    have h2 := stL_two S n l 16 ys hS
    rw [h2] at hz hst
    have hz' : (stD S n l 16).2 = 0 := hz
    obtain ⟨own', hd, hn2⟩ := hst.disk
    have hpen := stD_pend S n l 16
    have HE := Lib.hid (show wslotD S n l = syncD (stD S n l 16).1 by unfold wslotD; rw [if_pos hz'])
    obtain ⟨S', hS'⟩ : ∃ S', S' = (stD S n l 16).1 := ⟨_, rfl⟩
    have hd' : DiskAt W B D S' own' := by rw [hS']; exact hd
    rw [← hS'] at HE hpen
    have HSY := Lib.hid (sync_any hd' (by omega))
    have x0 : W.cell? ⟨H, 0, none⟩ = some (.pointer (some ⟨D, 0, none⟩)) := by rw [HH.out]; exact hst.bd.cell rfl
    have HST := Lib.hid hst
    have HN2 := Lib.hid hn2
    have HD2 := Lib.hid hd'
    have HDK := Lib.hid hDk
    have HK := Lib.hid hK
    clear hst hn2 hd hd' hz hz' h2 hS' hpen hK hDk
    gi_wp2_with ((refine ⟨trivial, ?_⟩); (refine (callsIn_wide.2 HSY.out).mono ?_))
    rintro e w1 rfl ⟨own2, hd2, ho2, hn3⟩
    rw [← HE.out] at hd2 ⊢
    have hn15 : ∀ j, own' j → j ≠ H + 2 ∧ j ≠ H + 1 ∧ j ≠ H := fun j hj => by
      have e0 := HH.out
      rcases HN2.out j hj with h | h
      · have := (HD.out.lt h).2; omega
      · omega
    have b1 := HST.out.br.out ho2 (by rw [← HH.out]; exact fun h => (hn15 _ h).2.1 rfl)
    rw [← HH.out] at b1
    have c1 := b1.cell (i := 0) rfl
    have f1 := b1.frozen 0
    have HB1 := Lib.hid b1
    have HD3 := Lib.hid hd2
    have HO3 := Lib.hid ho2
    have HN3 := Lib.hid hn3
    have hs1 := ho2.size
    have HN15 := Lib.hid hn15
    clear hd2 ho2 hn3 b1 x0 hn15
    gi_wp2
    have hlt := (Array.getElem?_eq_some_iff.1 HK.out).1
    have e0 := HH.out
    have hDk := HDK.out
    have hba := HST.out.ba.lt
    have hnD : ¬ own' Dk := fun h => by
      obtain ⟨o, e1, e2⟩ := HD2.out.cells h
      rw [HK.out] at e1
      injection e1 with e1
      subst e1
      cases e2
    have hK1 := (HO3.out.block Dk hlt hnD).trans HK.out
    have oc : Out (fun k => k = H + 1) w1 (w1.setCell ⟨H + 1, 0, none⟩ (.int .i64 (wslotD S n l).2)) := (Out.refl (fun k => k = H + 1) w1).setCell (p := ⟨H + 1, 0, none⟩) (.inl rfl) _
    have hK2 := (oc.block Dk (by omega) (fun e => by omega)).trans hK1
    refine ⟨by simp, .inl ⟨_, _, rfl, run_takeDeferred hK2, ?_⟩⟩
    have hg : Out (fun k => k = Dk) (w1.setCell ⟨H + 1, 0, none⟩ (.int .i64 (wslotD S n l).2)) ((w1.setCell ⟨H + 1, 0, none⟩ (.int .i64 (wslotD S n l).2)).putObj Dk (.deferred none)) :=
      Out.of_grown (grownBy_putObj' _ _ _) (fun k e _ => by injection e with e; exact e.symm)
    have hn2D : ∀ k, own2 k → ¬ k = H + 1 ∧ ¬ k = Dk := fun k hk => by
      constructor
      · intro e
        rcases HN3.out k hk with h | h
        · have := HN15.out k h; omega
        · omega
      · intro e
        subst e
        obtain ⟨o, e1, e2⟩ := HD3.out.cells hk
        rw [hK1] at e1
        injection e1 with e1
        subst e1
        cases e2
    have r0 := ((HB1.out.set 0 (.int .i64 (wslotD S n l).2)).out hg (by omega)).cell (i := 0) rfl
    refine ⟨.int .i64 (wslotD S n l).2, ?_, rfl, own2, (HD3.out.out oc fun k hk => (hn2D k hk).1).out hg fun k hk => (hn2D k hk).2, ?_, fun j hj => ?_⟩
    · simp [results, Try.results44, go_sem, r0]
    · refine ((HST.out.out.trans' HO3.out (fun j hj => ?_)).trans' oc (fun j hj => .inr (by have hj : j = H + 1 := hj; omega))).trans' hg (fun j hj => .inr (by have hj : j = Dk := hj; omega))
      rcases HN2.out j hj with h | h
      · exact .inl h
      · right; omega
    · rcases HN3.out j hj with h | h
      · rcases HN2.out j h with h | h
        · exact .inl h
        · right; omega
      · right; have := HST.out.bd.lt; omega
  case stop =>
    rintro Dk cd pre W hDk ⟨k, hk, hpre⟩ ⟨rfl, hz, hst⟩ hK
    have h2 := stL_two S n l k pre hpre
    rw [h2] at hz hst
    have hE : wslotD S n l = stD S n l k := by
      have := stD_stuck (k := k) hz 16 hk
      unfold wslotD
      rw [this, if_neg hz]
    have HE := Lib.hid hE
    have HST := Lib.hid hst
    clear hst hE h2 hz hpre
    gi_wp2
    refine ⟨by simp, .inl ⟨_, _, rfl, run_takeDeferred hK, ?_⟩⟩
    have hg : W.grownBy (W.putObj Dk (.deferred none)) (some Dk) := grownBy_putObj' _ _ _
    have hst := HST.out.turn hg (fun k e => by injection e with e; subst e; exact ⟨by have := HH.out; omega, _, hK, rfl⟩)
    obtain ⟨own', hd, hn2⟩ := hst.disk
    have r0 := hst.br.cell (i := 0) rfl
    rw [← HH.out] at r0
    refine ⟨.int .i64 (stD S n l k).2, ?_, ?_, ?_⟩
    · simp [results, Try.results44, go_sem, r0]
    · rw [HE.out]
    · rw [HE.out]
      exact ⟨own', hd, hst.out, fun j hj => by
        rcases hn2 j hj with h | h
        · exact .inl h
        · right; omega⟩
end Go.Proofs.Ytcnmamdfiicdaaa
