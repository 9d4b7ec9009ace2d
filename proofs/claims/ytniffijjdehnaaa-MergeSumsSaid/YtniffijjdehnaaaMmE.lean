/- The merging of keys: the error of the next key. -/
import Derived.Test.YtniffijjdehnaaaMmD
namespace Go.Proofs.Ytniffijjdehnaaa
open Go.RowKit Me Tx Ed Mg Va

/-- The row that is under way. -/
def mh : List RowR → Nat × List ArcR
  | [] => (0, [])
  | r :: _ => (r.src, r.arcs)
/-- What is known between two keys, in memory. -/
structure MrgAt (w : World) (lo G : Nat) (rows : List RowR) (last : Option EdD) (A : Option Addr) (n c : Nat) : Prop where
  box : Blk w G (mgC (mh rows).1 (sumA (mh rows).2) n c A (last.getD ⟨0, 0, 0⟩))
  own : w.ownsRow lo 59 2 (.slice A n c) n (arcCells (arcM (mh rows).2))
  len : (arcM (mh rows).2).length = n
  low : G < lo
  lim : lo ≤ w.heap.size
theorem MrgAt.past {w w' : World} {lo G : Nat} {rows : List RowR} {last : Option EdD} {A : Option Addr} {n c : Nat} (h : MrgAt w lo G rows last A n c) (hb : Below w.heap.size w w') : MrgAt w' lo G rows last A n c :=
  ⟨h.box.past hb, own_below' h.own hb, h.len, h.low, Nat.le_trans h.lim hb.size⟩
/-- What holds of it. -/
structure MkOk (rows : List RowR) (last : Option EdD) (k : Nat) : Prop where
  keys : KeysOk rows last k
  ok : RowsOk rows
  front : ∀ y, last = some y → Front rows y
  fit : ∀ r ∈ rows, r.src < 4294967296 ∧ ∀ a ∈ r.arcs, a.dst < 4294967296
set_option maxRecDepth 100000 in
theorem msum_any (G f s n c : Nat) (A : Option Addr) (y : EdD) (x : Nat) (w : World) (hb : Blk w G (mgC f s n c A y)) :
    Calls Try.prog 38 #[.pointer (some ⟨G, 0, none⟩), .int .u32 (x : Int)] w fun e w' => e = .returned (.int .u64 ((if f = x then s else 0 : Nat) : Int)) ∧ Below w.heap.size w w' := by
  have g0 := hb.cell (i := 0) rfl
  have g2 := hb.cell (i := 2) rfl
  by_cases h : f = x
  · subst h
    have d0 : ((f : Int) != (f : Int)) = false := by simp
    go_enter Try.func38, Try.ntmps38
    go_wp2
    go_ret
    exact ⟨by simp, Below.refl _ _⟩
  · have d0 : ((x : Int) != (f : Int)) = true := by simp; omega
    go_enter Try.func38, Try.ntmps38
    go_wp2
    go_ret
    exact ⟨by simp [h], Below.refl _ _⟩
theorem blk_cs {w : World} {G k : Nat} {cs : List Value} {l : List Nat} (h : Blk w G cs) (hl : ∀ (i x : Nat), l[i]? = some x → cs[k + i]? = some (.int .u32 (x : Int))) : Cs w w.heap.size (some ⟨G, k, none⟩) (nCells l) := fun _ => by
  refine ⟨_, rfl, h.lt, fun i v hv => ?_⟩
  unfold nCells at hv
  rw [List.getElem?_map] at hv
  cases hx : l[i]? with
  | none => rw [hx] at hv; cases hv
  | some x =>
    rw [hx] at hv
    injection hv with hv
    subst hv
    have := h.cell (hl i x hx)
    unfold Addr.add
    split
    · rename_i he
      rw [he, Nat.add_zero] at this
      exact this
    · exact this
/-- What is known of each slot where a key is compared with the one ahead of it. -/
def mnG (G N : Nat) (z : Int) (b : Bool) : Gw.Fact := fun t v _ =>
  match t with
  | 0 | 24 | 25 => v = .pointer (some ⟨G, 0, none⟩)
  | 6 => v = .pointer (some ⟨N, 0, none⟩)
  | 23 => v = .slice (some ⟨N, 0, none⟩) 3 3
  | 26 => v = .pointer (some ⟨G, 3, none⟩)
  | 27 => v = .slice (some ⟨G, 3, none⟩) 3 3
  | 28 => v = .int .i64 z
  | 29 | 22 => v = .bool b
  | _ => True
/-- .. where the sum is taken. -/
def mnH (G N xs xw s t : Nat) (b : Bool) : Gw.Fact := fun k v _ =>
  match k with
  | 0 | 32 => v = .pointer (some ⟨G, 0, none⟩)
  | 6 | 33 => v = .pointer (some ⟨N, 0, none⟩)
  | 34 => v = .int .u32 (xs : Int)
  | 35 => v = .int .u64 (s : Int)
  | 36 => v = .pointer (some ⟨N, 2, none⟩)
  | 37 => v = .int .u32 (xw : Int)
  | 38 => v = .int .u64 (xw : Int)
  | 39 => v = .int .u64 (t : Int)
  | 40 | 31 => v = .bool b
  | _ => True
/-- The next key's numbers, or its error. -/
def NxPost (w : World) (rows : List RowR) (last : Option EdD) (b : List UInt8) (e : Ending) (w' : World) : Prop :=
  ∃ x : EdD, e = .returned (.tuple #[numV x, .int .i64 (errK rows last b)]) ∧ (errK rows last b = 0 → b.length = 12 ∧ x = edB b) ∧ Below w.heap.size w w'
set_option maxRecDepth 100000 in
set_option maxHeartbeats 4000000 in
theorem mnext_any (lo G n c : Nat) (A : Option Addr) (rows : List RowR) (last : Option EdD) (k : Nat) (K : Option Addr) (kn kc : Nat) (b : List UInt8) (w : World) (h : MrgAt w lo G rows last A n c) (hok : MkOk rows last k) (hl : b.length = kn) (hr : Rd w w.heap.size K b) :
    Calls Try.prog 35 #[.pointer (some ⟨G, 0, none⟩), .slice K kn kc] w (NxPost w rows last b) := by
  obtain ⟨H, hH⟩ : ∃ H, H = w.heap.size := ⟨_, rfl⟩
  obtain ⟨w0, hw0⟩ : ∃ w0, w0 = w.alloc (.cells #[.int .u32 0, .int .u32 0, .int .u32 0] 63) := ⟨_, rfl⟩
  have hb0 : Below w.heap.size w w0 := by rw [hw0]; exact (Below.refl _ _).alloc (Nat.le_refl _) _
  have BZ := Lib.hid (show Blk w0 H [.int .u32 0, .int .u32 0, .int .u32 0] by rw [hw0, hH]; exact Blk.new w [.int .u32 0, .int .u32 0, .int .u32 0] _)
  have HD := Lib.hid (mdec_post K kn kc b w0 hl ((hr.below hb0).more hb0.size))
  have HW0 := Lib.hid hw0
  have HHE := Lib.hid hH
  have HB0 := Lib.hid hb0
  obtain ⟨f, hf⟩ : ∃ f, f = (mh rows).1 := ⟨_, rfl⟩
  obtain ⟨s, hs⟩ : ∃ s, s = sumA (mh rows).2 := ⟨_, rfl⟩
  obtain ⟨y, hy⟩ : ∃ y, y = last.getD ⟨0, 0, 0⟩ := ⟨_, rfl⟩
  have BG := h.box.past hb0
  rw [← hf, ← hs, ← hy] at BG
  replace BG := Lib.hid BG
  have HS31 : s ≤ 2147483647 := by
    rw [hs]
    cases rows with
    | nil => exact Nat.zero_le _
    | cons r l => exact hok.keys.sum r l rfl
  have HU := Lib.hid (show ∀ x, under last x = lowE x y by
    intro x
    rw [hy]
    cases last with
    | none => show false = _; unfold lowE; simp
    | some z => rfl)
  have HHR := Lib.hid (show ∀ x : EdD, hasR x rows = if f = x.src then s else 0 by
    intro x
    rw [hf, hs]
    cases rows with
    | nil => simp [hasR, mh, sumA]
    | cons r l => rfl)
  have HL := Lib.hid hl
  clear hw0 hH hb0 hl hr h hok hf hs hy
  go_enter Try.func35, Try.ntmps35
  go_upto_region 1 with fail
  rw [← HW0.out, ← HHE.out]
  go_wp2_with fail
  refine HD.out.mono ?_
  rintro e w1 ⟨⟨x0, x1, x2⟩, z, rfl, hk, hb1⟩
  have HB1 := Lib.hid hb1
  have HK := Lib.hid hk
  clear HD hb1 hk
  unfold numV
  obtain ⟨w2, hw2⟩ : ∃ w2, w2 = w1.alloc (.cells #[.int .u32 (x0 : Int), .int .u32 (x1 : Int), .int .u32 (x2 : Int)] 63) := ⟨_, rfl⟩
  obtain ⟨N, hN⟩ : ∃ N, N = w1.heap.size := ⟨_, rfl⟩
  have HB2 := Lib.hid (show Below w0.heap.size w0 w2 from by rw [hw2]; exact HB1.out.alloc HB1.out.size _)
  have BN := Lib.hid (show Blk w2 N [.int .u32 (x0 : Int), .int .u32 (x1 : Int), .int .u32 (x2 : Int)] from by rw [hw2, hN]; exact Blk.new w1 [.int .u32 (x0 : Int), .int .u32 (x1 : Int), .int .u32 (x2 : Int)] _)
  have HW2 := Lib.hid hw2
  have HNE := Lib.hid hN
  clear hw2 hN
  go_upto_region 2 with fail
  rw [← HW2.out, ← HNE.out]
  have n0 := BN.out.cell (i := 0) rfl
  have n1 := BN.out.cell (i := 1) rfl
  have n2 := BN.out.cell (i := 2) rfl
  have BZ2 := Lib.hid (BZ.out.past HB2.out)
  have BG2 := Lib.hid (BG.out.past HB2.out)
  have HLOW := Lib.hid (HB0.out.trans (HB2.out.mono HB0.out.size))
  rcases HK.out with ⟨h12, hx, rfl⟩ | ⟨h12, hx, rfl⟩
  · have HX := Lib.hid hx
    have HB12 := Lib.hid (show b.length = 12 from HL.out.trans h12)
    clear hx h12
    by_cases hz : x2 = 0
    · have d0 : ((x2 : Int) == 0) = true := by simp [hz]
      have HERR := Lib.hid (show errK rows last b = 3 by unfold errK; rw [if_pos (.inr (by rw [← HX.out]; exact hz))])
      clear hz
      go_wp2_with (refine wpList_store_blk rfl 63 _ _ rfl H _ #[.int .u32 0, .int .u32 0, .int .u32 0] rfl rfl BZ2.out rfl num_size (ed_one 0 0 0) ?_
                   intro w7 hb7 ho7
                   have HB7 := Lib.hid hb7
                   have HO7 := Lib.hid ho7
                   clear hb7 ho7)
      have r0 := HB7.out.cell (i := 0) rfl
      have r1 := HB7.out.cell (i := 1) rfl
      have r2 := HB7.out.cell (i := 2) rfl
      refine bodyPost_ret (v := .tuple #[numV ⟨0, 0, 0⟩, .int .i64 3]) (by simp [results, Try.results35, go_sem, r0, r1, r2, numV]) rfl ?_
      exact ⟨⟨0, 0, 0⟩, by rw [HERR.out], fun e => (by rw [HERR.out] at e; cases e), HLOW.out.trans (HO7.out.below (fun k _ e => by have := HHE.out; omega) HLOW.out.size)⟩
    · have d0 : ((x2 : Int) == 0) = false := by simp; omega
      have HC := Lib.hid (show ∀ W, Below w2.heap.size w2 W → Calls Try.prog 37 #[.slice (some ⟨N, 0, none⟩) 3 3, .slice (some ⟨G, 3, none⟩) 3 3] W fun e w' => e = .returned (.int .i64 (cmpL (edL ⟨x0, x1, x2⟩) (edL y))) ∧ w' = W from fun W hW => by
        refine compare_any _ _ 3 3 3 (edL ⟨x0, x1, x2⟩) (edL y) W (by omega) rfl rfl (blk_cs (k := 0) (BN.out.past hW) fun i x hx => ?_) (blk_cs (k := 3) (BG2.out.past hW) fun i x hx => ?_)
        · unfold edL at hx
          match i, hx with
          | 0, hx => injection hx with hx; rw [← hx]; rfl
          | 1, hx => injection hx with hx; rw [← hx]; rfl
          | 2, hx => injection hx with hx; rw [← hx]; rfl
        · unfold edL at hx
          match i, hx with
          | 0, hx => injection hx with hx; rw [← hx]; rfl
          | 1, hx => injection hx with hx; rw [← hx]; rfl
          | 2, hx => injection hx with hx; rw [← hx]; rfl)
      obtain ⟨z, hze⟩ : ∃ z, z = cmpL (edL ⟨x0, x1, x2⟩) (edL y) := ⟨_, rfl⟩
      rw [← hze] at HC
      obtain ⟨q, hq⟩ : ∃ q, decide (z < 0) = q := ⟨_, rfl⟩
      have HQ := Lib.hid (show under last (edB b) = q by rw [← HX.out, HU.out, ← cmpL_low, ← hze, hq])
      have HZ0 := Lib.hid (show ¬ (b.length ≠ 12 ∨ (edB b).wgt = 0) from fun h => h.elim (fun h => h HB12.out) (fun h => hz (by rw [← HX.out] at h; exact h)))
      clear hze hz
      go_upto_region 4 with fail
      refine Gw.wp_region_grow (mnG G N z q) [23, 24, 25, 26, 27, 28, 29, 22] [([6], none), ([0], none), ([24], none), ([25], none), ([26], none), ([23, 27], none), ([28], none), ([29], none)] 43 (by kernel_rfl) (by kernel_rfl) rfl ?h0 ?hreq ?hend
      case h0 =>
        intro t W hnd _
        unfold mnG
        split <;> first | rfl | trivial | exact absurd (by simp) hnd
      case hreq =>
        refine ⟨?_, ?_, ?_, ?_, ?_, ?_, ?_, ?_, trivial⟩
        all_goals
          intro ac W hg hk
          simp only [Gw.Knows, mnG] at hk
          try (simp [go_sem, Gw.OpReq, Gw.Ok, Gw.Post, Gw.Holds, mnG, Gw.Grows.refl, hk, hq]; done)
        simp [go_sem, Gw.OpReq, Gw.Ok, Gw.Post, Gw.Holds, mnG, Gw.Grows.refl, hk]
        refine (HC.out W hg).mono ?_
        rintro e W' ⟨rfl, rfl⟩
        exact ⟨_, rfl, Gw.Grows.refl _, fun _ _ => rfl⟩
      case hend =>
        intro v w3 hg hv
        have v22 := (hv 22 (by simp)).now
        simp only [mnG] at v22
        simp only [Gw.putAll, Act.put, List.setIfInBounds_toArray, List.set_cons_zero, List.set_cons_succ]
        rw [v22]
        have HB3 := Lib.hid (show Below w2.heap.size w2 w3 from hg)
        clear hg hv v22 n0 n1 n2 hq
        have BZ3 := Lib.hid (BZ2.out.past HB3.out)
        have BG3 := Lib.hid (BG2.out.past HB3.out)
        have BN3 := Lib.hid (BN.out.past HB3.out)
        have HLOW3 := Lib.hid (HLOW.out.trans (HB3.out.mono HLOW.out.size))
        cases q with
        | true =>
          have HERR := Lib.hid (show errK rows last b = 13 by unfold errK; rw [if_neg HZ0.out, if_pos HQ.out])
          go_wp2_with (refine wpList_store_blk rfl 63 _ _ rfl H _ #[.int .u32 0, .int .u32 0, .int .u32 0] rfl rfl BZ3.out rfl num_size (ed_one 0 0 0) ?_
                       intro w7 hb7 ho7
                       have HB7 := Lib.hid hb7
                       have HO7 := Lib.hid ho7
                       clear hb7 ho7)
          have r0 := HB7.out.cell (i := 0) rfl
          have r1 := HB7.out.cell (i := 1) rfl
          have r2 := HB7.out.cell (i := 2) rfl
          refine bodyPost_ret (v := .tuple #[numV ⟨0, 0, 0⟩, .int .i64 13]) (by simp [results, Try.results35, go_sem, r0, r1, r2, numV]) rfl ?_
          exact ⟨⟨0, 0, 0⟩, by rw [HERR.out], fun e => (by rw [HERR.out] at e; cases e), HLOW3.out.trans (HO7.out.below (fun k _ e => by have := HHE.out; omega) HLOW3.out.size)⟩
        | false =>
          obtain ⟨s1, hs1⟩ : ∃ s1, s1 = if f = x0 then s else 0 := ⟨_, rfl⟩
          have hs31 : s1 ≤ 2147483647 := by rw [hs1]; have := HS31; split <;> omega
          have HSM := Lib.hid (show ∀ W, Below w3.heap.size w3 W → Calls Try.prog 38 #[.pointer (some ⟨G, 0, none⟩), .int .u32 (x0 : Int)] W fun e w' => e = .returned (.int .u64 (s1 : Int)) ∧ Below W.heap.size W w' from fun W hW => by
            rw [hs1]; exact msum_any G f s n c A y x0 W (BG3.out.past hW))
          have hx2 : x2 < 4294967296 := by have := (edB_fit b).2.2; rw [← HX.out] at this; exact this
          obtain ⟨t, ht⟩ : ∃ t, t = s1 + x2 := ⟨_, rfl⟩
          have hw1 : IntKind.u64.wrap (x2 : Int) = (x2 : Int) := by rw [IntKind.wrap_u64]; omega
          have hw2 : IntKind.u64.wrap ((s1 : Int) + (x2 : Int)) = (t : Int) := by rw [IntKind.wrap_u64]; omega
          obtain ⟨q, hq⟩ : ∃ q, decide ((2147483647 : Int) < (t : Int)) = q := ⟨_, rfl⟩
          have HT := Lib.hid (show (2147483647 < hasR (edB b) rows + (edB b).wgt) ↔ q = true by
            rw [← HX.out, HHR.out, ← hq, decide_eq_true_eq]
            show 2147483647 < (if f = x0 then s else 0) + x2 ↔ _
            rw [← hs1, ← ht]
            omega)
          clear hs1 ht hs31 hx2
          go_upto_region 6 with fail
          refine Gw.wp_region_grow (mnH G N x0 x2 s1 t q) [32, 33, 34, 35, 36, 37, 38, 39, 40, 31] [([0], none), ([6], none), ([33], none), ([32, 34], none), ([6], none), ([36], none), ([37], none), ([35, 38], none), ([39], none), ([40], none)] 43 (by kernel_rfl) (by kernel_rfl) rfl ?h0 ?hreq ?hend
          case h0 =>
            intro t W hnd _
            unfold mnH
            split <;> first | rfl | trivial | exact absurd (by simp) hnd
          case hreq =>
            refine ⟨?_, ?_, ?_, ?_, ?_, ?_, ?_, ?_, ?_, ?_, trivial⟩
            all_goals
              intro ac W hg hk
              have z0 := (BN3.out.past hg).cell (i := 0) rfl
              have z2 := (BN3.out.past hg).cell (i := 2) rfl
              simp only [Gw.Knows, mnH] at hk
              try (simp [go_sem, Gw.OpReq, Gw.Ok, Gw.Post, Gw.Holds, mnH, Gw.Grows.refl, hk, hq, z0, z2, hw1, hw2]; done)
            simp [go_sem, Gw.OpReq, Gw.Ok, Gw.Post, Gw.Holds, mnH, Gw.Grows.refl, hk]
            refine (HSM.out W hg).mono ?_
            rintro e W' ⟨rfl, hb4⟩
            exact ⟨_, rfl, hb4, fun _ _ => rfl⟩
          case hend =>
            intro v w4 hg hv
            have v31 := (hv 31 (by simp)).now
            simp only [mnH] at v31
            simp only [Gw.putAll, Act.put, List.setIfInBounds_toArray, List.set_cons_zero, List.set_cons_succ]
            rw [v31]
            have HB4 := Lib.hid (show Below w3.heap.size w3 w4 from hg)
            clear hg hv v31 hq hw1 hw2
            have BZ4 := Lib.hid (BZ3.out.past HB4.out)
            have BN4 := Lib.hid (BN3.out.past HB4.out)
            have HLOW4 := Lib.hid (HLOW3.out.trans (HB4.out.mono HLOW3.out.size))
            cases q with
            | true =>
              have HERR := Lib.hid (show errK rows last b = 10 by unfold errK; rw [if_neg HZ0.out, if_neg (by rw [HQ.out]; simp), if_pos (HT.out.2 rfl)])
              go_wp2_with (refine wpList_store_blk rfl 63 _ _ rfl H _ #[.int .u32 0, .int .u32 0, .int .u32 0] rfl rfl BZ4.out rfl num_size (ed_one 0 0 0) ?_
                           intro w7 hb7 ho7
                           have HB7 := Lib.hid hb7
                           have HO7 := Lib.hid ho7
                           clear hb7 ho7)
              have r0 := HB7.out.cell (i := 0) rfl
              have r1 := HB7.out.cell (i := 1) rfl
              have r2 := HB7.out.cell (i := 2) rfl
              refine bodyPost_ret (v := .tuple #[numV ⟨0, 0, 0⟩, .int .i64 10]) (by simp [results, Try.results35, go_sem, r0, r1, r2, numV]) rfl ?_
              exact ⟨⟨0, 0, 0⟩, by rw [HERR.out], fun e => (by rw [HERR.out] at e; cases e), HLOW4.out.trans (HO7.out.below (fun k _ e => by have := HHE.out; omega) HLOW4.out.size)⟩
            | false =>
              have HERR := Lib.hid (show errK rows last b = 0 by unfold errK; rw [if_neg HZ0.out, if_neg (by rw [HQ.out]; simp), if_neg (fun h => by have := HT.out.1 h; cases this)])
              have n0 := BN4.out.cell (i := 0) rfl
              have n1 := BN4.out.cell (i := 1) rfl
              have n2 := BN4.out.cell (i := 2) rfl
              go_wp2_with (refine wpList_store_blk rfl 63 _ _ rfl H _ #[.int .u32 (x0 : Int), .int .u32 (x1 : Int), .int .u32 (x2 : Int)] rfl rfl BZ4.out rfl num_size (ed_one _ _ _) ?_
                           intro w7 hb7 ho7
                           have HB7 := Lib.hid hb7
                           have HO7 := Lib.hid ho7
                           clear hb7 ho7)
              have r0 := HB7.out.cell (i := 0) rfl
              have r1 := HB7.out.cell (i := 1) rfl
              have r2 := HB7.out.cell (i := 2) rfl
              refine bodyPost_ret (v := .tuple #[numV ⟨x0, x1, x2⟩, .int .i64 0]) (by simp [results, Try.results35, go_sem, r0, r1, r2, numV]) rfl ?_
              exact ⟨⟨x0, x1, x2⟩, by rw [HERR.out], fun _ => ⟨HB12.out, HX.out⟩, HLOW4.out.trans (HO7.out.below (fun k _ e => by have := HHE.out; omega) HLOW4.out.size)⟩
  · have d12 : b.length ≠ 12 := by rw [HL.out]; exact h12
    have HERR := Lib.hid (show errK rows last b = 3 by unfold errK; rw [if_pos (.inl d12)])
    clear h12 hx d12
    go_wp2_with (refine wpList_store_blk rfl 63 _ _ rfl H _ #[.int .u32 0, .int .u32 0, .int .u32 0] rfl rfl BZ2.out rfl num_size (ed_one 0 0 0) ?_
                 intro w7 hb7 ho7
                 have HB7 := Lib.hid hb7
                 have HO7 := Lib.hid ho7
                 clear hb7 ho7)
    have r0 := HB7.out.cell (i := 0) rfl
    have r1 := HB7.out.cell (i := 1) rfl
    have r2 := HB7.out.cell (i := 2) rfl
    refine bodyPost_ret (v := .tuple #[numV ⟨0, 0, 0⟩, .int .i64 3]) (by simp [results, Try.results35, go_sem, r0, r1, r2, numV]) rfl ?_
    exact ⟨⟨0, 0, 0⟩, by rw [HERR.out], fun e => (by rw [HERR.out] at e; cases e), HLOW.out.trans (HO7.out.below (fun k _ e => by have := HHE.out; omega) HLOW.out.size)⟩
end Go.Proofs.Ytniffijjdehnaaa
