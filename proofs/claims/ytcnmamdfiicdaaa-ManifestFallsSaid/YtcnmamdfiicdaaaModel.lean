/- A disk's slots as the document's disk, as the laws lay it. -/
import Derived.Test.YtcnmamdfiicdaaaRReadA
import Derived.Test.YtcnmamdfiicdaaaAppRow
namespace Go.Proofs.Ytcnmamdfiicdaaa
open Go.RowKit Me Mf Rw Ds

/-- The writes that lay the first blocks. -/
def madeOf (S : Dsk) (k : Nat) : List WD := (List.range k).map fun i => ⟨i, latestD S i⟩
theorem madeOf_succ (S : Dsk) (k : Nat) : madeOf S (k + 1) = madeOf S k ++ [⟨k, latestD S k⟩] := by simp [madeOf, List.range_succ]
theorem madeOf_length (S : Dsk) (k : Nat) : (madeOf S k).length = k := by simp [madeOf]
/-- How many blocks are laid. -/
def least32 (n : Nat) : Nat := if 32 ≤ n then 32 else n
theorem least32_le (n : Nat) : least32 n ≤ 32 ∧ least32 n ≤ n := by unfold least32; split <;> omega
def mdlR (S : Dsk) : RefM := ⟨S.stored.length, false, -1, madeOf S (least32 S.stored.length), []⟩
theorem lastW_made (S : Dsk) (b : List UInt8) : ∀ (k i : Nat), i < k → lastW (madeOf S k) i b = latestD S i
  | 0, _, h => by omega
  | k + 1, i, h => by
    rw [madeOf_succ, lastW_snoc]
    by_cases e : k = i
    · subst e; exact if_pos rfl
    · rw [if_neg e]; exact lastW_made S b k i (by omega)
theorem made_len {S : Dsk} (h : Fine S) {k : Nat} (hk : k ≤ S.stored.length) : ∀ x ∈ madeOf S k, x.b.length = 128 := by
  intro x hx
  obtain ⟨i, hi, rfl⟩ := List.mem_map.1 hx
  exact latestD_length h (by have := List.mem_range.1 hi; omega)
theorem readR_mdl {S : Dsk} (hon : S.on = true) {i : Nat} (hi : i < 32) : readR (mdlR S) (i : Int) = readD S (i : Int) := by
  unfold readR readD readER readE
  rw [hon]
  by_cases h : i < S.stored.length
  · have : hasB (mdlR S).count (i : Int) = true := by rw [hasB_nat]; exact decide_eq_true h
    have h' : hasB S.stored.length (i : Int) = true := this
    rw [this, h', Int.toNat_natCast]
    simp only [mdlR, Bool.false_eq_true, if_false, if_true]
    show lastW [] i _ = _
    rw [lastW]
    exact lastW_made S _ _ i (by unfold least32; split <;> omega)
  · have : hasB (mdlR S).count (i : Int) = false := by rw [hasB_nat]; exact decide_eq_false h
    have h' : hasB S.stored.length (i : Int) = false := this
    rw [this, h']
    rfl
theorem slotR_mdl {S : Dsk} (hon : S.on = true) {n : Nat} (hn : n ≤ 1) : ∀ k, k ≤ 16 → slotR (mdlR S) n k = slotD S n k
  | 0, _ => rfl
  | k + 1, h => by rw [slotR, slotD, slotR_mdl hon hn k (by omega), readR_mdl hon (by omega)]
theorem readR_mdl_le {S : Dsk} (h : Fine S) (i : Int) : (readR (mdlR S) i).length ≤ 128 := by
  unfold readR
  split
  · have := lastW_len (i := i.toNat) (made_len h (least32_le S.stored.length).2) zero128_length
    show (lastW [] _ _).length ≤ 128
    rw [lastW]
    exact Nat.le_of_eq this
  · exact Nat.zero_le _
theorem w_info' : (Try.prog.info? 98).map (fun i => (i.zero, i.size, i.bytes)) = some (some (.agg #[.int .i64 0, .string { data := #[] }]), 2, 24) := by kernel_rfl
theorem d_size' : (Try.prog.info? 51).map (·.size) = some 5 := by kernel_rfl
theorem d_one' (n : Int) (o : Bool) (f : Int) (A : Option Addr) (a b : Nat) (A' : Option Addr) (a' b' : Nat) : (#[.int .i64 n, .bool o, .int .i64 f, .slice A a b, .slice A' a' b'] : Array Value).all (·.oneCell') = true := by simp [Value.oneCell']
/-- The document's disk is answered. -/
def MdlPost (w : World) (own : Nat → Prop) (M : RefM) (e : Ending) (w' : World) : Prop :=
  Below w.heap.size w w' ∧ ∃ Am nm cm, e = .returned (.agg #[.int .i64 (M.count : Int), .bool M.off, .int .i64 M.fuse, .slice Am nm cm, .slice none 0 0]) ∧ M.made.length = nm ∧ nm ≤ 32 ∧ RefAt w' own M Am cm none 0
theorem below_app_row {B : Nat} {a w : World} {o : Obj} {w' : World} {v : Value} {base n size : Nat} {e : TypeId} {xs : List Value} (h : Below B a w) (hown : (w.alloc o).ownsRow base e size v n xs) (hB : B ≤ w.heap.size ∧ B ≤ base) (hg : (w.alloc o).grownBy w' v.ownBlock) : Below B a w' :=
  h.trans (((Below.refl B w).alloc hB.1 o).grown hg (by simp; omega) (fun k hk => Nat.le_trans hB.2 (hown.lt k hk).1))
theorem mdl_ref {w wr w7 : World} {B D H b1 k c q : Nat} {S : Dsk} {own : Nat → Prop} {A : Option Addr} (h : DiskAt w B D S own) (hw : w.heap.size ≤ b1 + 1) (O : wr.ownsRow (b1 + 1) 98 2 (.slice A k c) k (Rw.rows wCells (madeOf S k))) (ho : Out (fun j => j = H) wr w7) (hH : H < b1) (hc : k ≤ c) :
    RefAt w7 own ⟨q, false, -1, madeOf S k, []⟩ A c none 0 :=
  ⟨Cy.of_own (base := b1 + 1) (own_out O ho fun j hj e => by have := (O.lt j hj).1; omega) (fun j hj hk => by have := (h.lt hk).2; omega), Cy.empty, by rw [madeOf_length]; exact hc, Nat.le_refl _⟩
set_option maxRecDepth 100000 in
set_option maxHeartbeats 2000000 in
theorem model_any {w : World} {B D : Nat} {S : Dsk} {own : Nat → Prop} (h : DiskAt w B D S own) (hp : S.pend.length < 4611686018427387904) (hon : S.on = true) :
    Calls Try.prog 18 #[.pointer (some ⟨D, 0, none⟩)] w (MdlPost w own (mdlR S)) := by
  obtain ⟨i0, hi0, hz0, hz1, hz2⟩ := info_parts w_info'
  obtain ⟨H, hH⟩ : ∃ H, H = w.heap.size := ⟨_, rfl⟩
  obtain ⟨q, hq⟩ : ∃ q, q = S.stored.length := ⟨_, rfl⟩
  have HQ := Lib.hid hq
  have HD := Lib.hid h
  have HC := Lib.hid (fun (W : World) (hb : Below w.heap.size w W) => count_any (h.past hb))
  rw [← hq] at HC
  have HE := Lib.hid (show ∀ k : Nat, k < q → readE S (k : Int) = 0 from fun k hk => by unfold readE; rw [hon, hasB_nat, decide_eq_true (by omega)]; rfl)
  have HFI := Lib.hid h.good
  have hq16 : q ≤ 65536 := by rw [hq]; exact h.good.2.2.2.1
  have HR5 := Lib.hid (fun (k : Nat) (hk : k < q) => show readD S (k : Int) = latestD S k by unfold readD; rw [if_pos (HE.out k hk)]; rfl)
  obtain ⟨w0, hw0⟩ : ∃ w0, w0 = w.alloc (.cells #[.int .i64 0, .bool false, .int .i64 0, .slice none 0 0, .slice none 0 0] 51) := ⟨_, rfl⟩
  have HW0 := Lib.hid hw0
  have HB0 := Lib.hid (show Below w.heap.size w w0 by rw [hw0]; exact (Below.refl _ _).alloc (Nat.le_refl _) _)
  have RS0 := Lib.hid (show Blk w0 H [.int .i64 0, .bool false, .int .i64 0, .slice none 0 0, .slice none 0 0] by rw [hw0, hH]; exact Blk.new w [.int .i64 0, .bool false, .int .i64 0, .slice none 0 0, .slice none 0 0] _)
  have hs0 : w0.heap.size = H + 1 := by rw [hw0, hH]; simp
  have HHW := Lib.hid hH
  have hwH : w.heap.size ≤ H := by omega
  have HMA := Lib.hid (fun (k : Nat) (hk : k = least32 q) => show mdlR S = ⟨q, false, -1, madeOf S k, []⟩ by unfold mdlR; rw [← hq, hk])
  clear h hw0 hH hon hq
  go_enter Try.func18, Try.ntmps18
  go_wp2_with fail
  rw [← HW0.out, ← HHW.out]
  refine (HC.out w0 HB0.out).mono ?_
  rintro e w' ⟨rfl, rfl⟩
  clear HW0
  go_wp2_with fail
  refine (rnew_any (q : Int) w0).mono ?_
  rintro e w1 ⟨rfl, hb1⟩
  obtain ⟨b1, hb1s⟩ : ∃ b1, b1 = w1.heap.size := ⟨_, rfl⟩
  obtain ⟨w2, hw2⟩ : ∃ w2, w2 = w1.alloc (.cells #[.int .i64 (q : Int), .bool false, .int .i64 (-1), .slice none 0 0, .slice none 0 0] 51) := ⟨_, rfl⟩
  have HW2 := Lib.hid hw2
  have HS1 := Lib.hid hb1s
  have hb2 : Below w1.heap.size w1 w2 := by rw [hw2]; exact (Below.refl _ _).alloc (Nat.le_refl _) _
  have h01 := hb1.size
  have HB2 := Lib.hid ((HB0.out.trans (hb1.mono HB0.out.size)).trans (hb2.mono (Nat.le_trans HB0.out.size hb1.size)))
  have RS2 := Lib.hid ((RS0.out.past hb1).past hb2)
  have BX2 := Lib.hid (show Blk w2 b1 [.int .i64 (q : Int), .bool false, .int .i64 (-1), .slice none 0 0, .slice none 0 0] by rw [hw2, hb1s]; exact Blk.new w1 [.int .i64 (q : Int), .bool false, .int .i64 (-1), .slice none 0 0, .slice none 0 0] _)
  have hHb : H < b1 := by omega
  have O2 := Lib.hid (show w2.ownsRow (b1 + 1) 98 2 (.slice none 0 0) 0 (Rw.rows wCells (madeOf S 0)) from World.ownsRow_nil _ _ _ _)
  clear hb1 hb2 hw2 hb1s RS0 HB0 h01
  go_wp2_with fail
  rw [← HW2.out, ← HS1.out]
  clear HW2 HS1
  go_loopw [4] (fun i wr => ∃ (k c : Nat) (A : Option Addr), k ≤ least32 q ∧ i = .int .i64 (k : Int) ∧ k ≤ c ∧ Hid (Blk wr b1 [.int .i64 (q : Int), .bool false, .int .i64 (-1), .slice A k c, .slice none 0 0]) ∧ Hid (wr.ownsRow (b1 + 1) 98 2 (.slice A k c) k (Rw.rows wCells (madeOf S k))) ∧ Hid (Blk wr H [.int .i64 0, .bool false, .int .i64 0, .slice none 0 0, .slice none 0 0]) ∧ Hid (Below w.heap.size w wr)) (fun i _ => 32 - (intOf i).toNat)
  case atStart => exact ⟨0, 0, none, Nat.zero_le _, rfl, Nat.le_refl _, BX2, O2, RS2, HB2⟩
  case round =>
    clear BX2 O2 RS2 HB2
    obtain ⟨k, c, A, hkl, rfl, hkc, BX, O, RS, HB⟩ := hrel
    have hl32 := least32_le q
    have HBl := BX.out.lt
    obtain ⟨x0, x1, x2, x3, x4⟩ := BX.out.five
    by_cases hlt : k < least32 q
    · have hk32 : k < 32 := by omega
      have hkq : k < q := by omega
      have hkq' : (k : Int) < (q : Int) := by omega
      have HEK := Lib.hid (HE.out k hkq)
      obtain ⟨b, hb⟩ : ∃ b, b = readD S (k : Int) := ⟨_, rfl⟩
      have HBB := Lib.hid hb
      have HLT := Lib.hid (HR5.out k hkq)
      clear hb hkl
      go_wp2_with fail
      refine (HC.out wr HB.out).mono ?_
      rintro e w' ⟨rfl, rfl⟩
      go_wp2_with fail
      refine (read_any (HD.out.past HB.out) (k : Int) hp).mono ?_
      rw [HEK.out, ← HBB.out]
      rintro e w3 ⟨hb3, A3, n3, rfl, hl3, hr3⟩
      have HB3 := Lib.hid (HB.out.trans (hb3.mono HB.out.size))
      have RS3 := Lib.hid (RS.out.past hb3)
      have BX3 := Lib.hid (BX.out.past hb3)
      have O3 := Lib.hid (own_below' O.out hb3)
      have hR3 : Rd w3 w3.heap.size A3 b := fun hn => by
        obtain ⟨g, rfl, hg, hB⟩ := hr3 (by omega)
        refine ⟨_, rfl, hB.lt, fun i u hu => ?_⟩
        rw [Addr.add_mid, Nat.zero_add]
        exact hB.cell (cellsOf_get hu)
      have es := str_any A3 n3 n3 b w3 _ hl3 hR3
      have hs3 := BX3.out.lt
      clear hb3 hl3 hr3 hR3 x0 x1 x2 x3 x4
      obtain ⟨x0, x1, x2, x3, x4⟩ := BX3.out.five
      have HS3 := Lib.hid hs3
      clear hs3
      go_wp2_with (at_builtin
                   refine wpList_append_row rfl _ _ 49 rfl (b1 + 1) 98 i0 _ 2 24 Try.underlying49 hi0 hz0 hz1 hz2 rfl (by decide) (.slice A k c) k _ rfl (O3.out.alloc _) (some ⟨w3.heap.size, 0, none⟩) 1 1 (wCells ⟨k, b⟩) rfl rfl (fun _ => ⟨_, rfl, two_lit rfl⟩) (wCells_one ⟨k, b⟩) (by unfold maxLen; omega) (by omega) (by simp; have := HS3.out; omega) ?_
                   intro v4 w4 ho4 hg4 _
                   obtain ⟨A4, c4, e4, hc4⟩ := own_slice' ho4
                   subst e4
                   have hne : (Value.slice A k c).ownBlock ≠ some b1 := fun e => by have := (O3.out.lt _ e).1; omega
                   have hneH : (Value.slice A k c).ownBlock ≠ some H := fun e => by have := (O3.out.lt _ e).1; omega
                   have BX4 := Lib.hid ((BX3.out.alloc _).grown hg4 hne)
                   have RS4 := Lib.hid ((RS3.out.alloc _).grown hg4 hneH)
                   have O4 := Lib.hid ho4
                   have HB4 := Lib.hid (below_app_row HB3.out (O3.out.alloc _) ⟨HB3.out.size, by have := HHW.out; omega⟩ hg4)
                   obtain ⟨y0, y1, y2, y3, y4⟩ := BX4.out.five
                   obtain ⟨f0, f1, f2, f3, f4⟩ := BX4.out.five_free
                   clear ho4 hg4 hne hneH)
      have hwb : w.heap.size ≤ b1 := by omega
      have BX5 := Lib.hid (show Blk (w4.setCell ⟨b1, 3, none⟩ (.slice A4 (k + 1) c4)) b1 [.int .i64 (q : Int), .bool false, .int .i64 (-1), .slice A4 (k + 1) c4, .slice none 0 0] from BX4.out.set 3 _)
      have RS5 := Lib.hid (RS4.out.other (p := ⟨b1, 3, none⟩) (by show b1 ≠ H; omega) (.slice A4 (k + 1) c4))
      have O5 := Lib.hid (show (w4.setCell ⟨b1, 3, none⟩ (.slice A4 (k + 1) c4)).ownsRow (b1 + 1) 98 2 (.slice A4 (k + 1) c4) (k + 1) (Rw.rows wCells (madeOf S (k + 1))) by
        have := own_past O4.out (grownBy_set w4 ⟨b1, 3, none⟩ (.slice A4 (k + 1) c4)) (by show b1 < b1 + 1; omega)
        rw [madeOf_succ, rows_snoc, ← HLT.out, ← HBB.out]
        exact this)
      have HB5 := Lib.hid (HB4.out.setCell (p := ⟨b1, 3, none⟩) hwb (.slice A4 (k + 1) c4))
      clear x0 x1 x2 x3 x4 y0 y1 y2 y3 y4 f0 f1 f2 f3 f4 BX4 RS4 O4 HB4
      go_roundw
      case rel => exact ⟨k + 1, c4, A4, by omega, by go_num, hc4, BX5, O5, RS5, HB5⟩
      case measure => simp [intOf]; omega
    · have hkE : k = least32 q := by omega
      have HM := Lib.hid (HMA.out k hkE)
      have hway : (¬ k < 32) ∨ (k < 32 ∧ ¬ (k : Int) < (q : Int)) := by
        unfold least32 at hkE
        split at hkE <;> omega
      have hk32 : k ≤ 32 := by omega
      clear hkE hkl hlt hl32
      rcases hway with h32 | ⟨h32, hkq⟩
      · go_wp2_with (refine wpList_store_blk rfl 51 _ _ rfl H _ #[.int .i64 (q : Int), .bool false, .int .i64 (-1), .slice A k c, .slice none 0 0] rfl rfl RS.out rfl d_size' (d_one' _ _ _ _ _ _ _ _ _) ?_
                     intro w7 hb7 ho7
                     have HB7 := Lib.hid (show Blk w7 H [.int .i64 (q : Int), .bool false, .int .i64 (-1), .slice A k c, .slice none 0 0] from hb7)
                     have HO7 := Lib.hid ho7
                     clear hb7 ho7)
        obtain ⟨r0, r1, r2, r3, r4⟩ := HB7.out.five
        refine bodyPost_ret (v := .agg #[.int .i64 (q : Int), .bool false, .int .i64 (-1), .slice A k c, .slice none 0 0]) (by simp [results, Try.results18, go_sem, r0, r1, r2, r3, r4]) rfl ?_
        rw [HM.out]
        exact ⟨HB.out.trans (HO7.out.below (B := w.heap.size) (fun k _ hk => by omega) HB.out.size), A, k, c, rfl, madeOf_length S k, by omega, mdl_ref (HD.out) (by have := HHW.out; omega) O.out HO7.out hHb hkc⟩
      · go_wp2_with fail
        refine (HC.out wr HB.out).mono ?_
        rintro e w' ⟨rfl, rfl⟩
        go_wp2_with (refine wpList_store_blk rfl 51 _ _ rfl H _ #[.int .i64 (q : Int), .bool false, .int .i64 (-1), .slice A k c, .slice none 0 0] rfl rfl RS.out rfl d_size' (d_one' _ _ _ _ _ _ _ _ _) ?_
                     intro w7 hb7 ho7
                     have HB7 := Lib.hid (show Blk w7 H [.int .i64 (q : Int), .bool false, .int .i64 (-1), .slice A k c, .slice none 0 0] from hb7)
                     have HO7 := Lib.hid ho7
                     clear hb7 ho7)
        obtain ⟨r0, r1, r2, r3, r4⟩ := HB7.out.five
        refine bodyPost_ret (v := .agg #[.int .i64 (q : Int), .bool false, .int .i64 (-1), .slice A k c, .slice none 0 0]) (by simp [results, Try.results18, go_sem, r0, r1, r2, r3, r4]) rfl ?_
        rw [HM.out]
        exact ⟨HB.out.trans (HO7.out.below (B := w.heap.size) (fun k _ hk => by omega) HB.out.size), A, k, c, rfl, madeOf_length S k, by omega, mdl_ref (HD.out) (by have := HHW.out; omega) O.out HO7.out hHb hkc⟩
end Go.Proofs.Ytcnmamdfiicdaaa
