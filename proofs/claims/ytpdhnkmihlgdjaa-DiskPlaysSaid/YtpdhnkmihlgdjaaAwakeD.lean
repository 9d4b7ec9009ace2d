/- The document's example of a disk. -/
import Derived.Test.YtpdhnkmihlgdjaaFilled
namespace Go.Proofs.Ytpdhnkmihlgdjaa
open Go.RowKit Me Rw Ds

def zz : List UInt8 := List.replicate 128 0
def ex1 : List UInt8 := (zz.set 0 5).set 100 6
def ex2 : List UInt8 := ex1.set 0 7
theorem ex1_length : ex1.length = 128 := by simp [ex1, zz]
theorem ex2_length : ex2.length = 128 := by simp [ex2, ex1_length]
def D1 : Dsk := { stored := [zero128, zero128], pend := [⟨1, ex1⟩], on := true, fuse := -1 }
def D2 : Dsk := { stored := [zero128, ex1], pend := [], on := true, fuse := -1 }
def D3 : Dsk := { stored := [zero128, ex1], pend := [⟨1, ex2⟩], on := true, fuse := -1 }
theorem ex_write1 : writeD (newD 2) 1 ex1 = (D1, 0) := by
  unfold writeD
  rw [if_pos (show (newD 2).on = true from rfl), if_pos (show hasB (newD 2).stored.length 1 = true by decide), if_pos ex1_length, power_neg (show (newD 2).fuse < 0 by decide), if_pos (show (newD 2).on = true from rfl)]
  rfl
theorem ex_sync : syncD D1 = (D2, 0) := by
  unfold syncD
  rw [if_pos (show D1.on = true from rfl), power_neg (show D1.fuse < 0 by decide), if_pos (show D1.on = true from rfl)]
  have e : Ds.settle ones 0 0 D1.pend D1.stored = D2.stored := by
    show ([zero128, zero128] : List (List UInt8)).set 1 (ex1.take (surv ones 0 0) ++ zero128.drop (surv ones 0 0)) = _
    have : surv ones 0 0 = 128 := by unfold surv; rw [if_pos (ones_bit 0)]
    rw [this, List.take_of_length_le (by rw [ex1_length]; omega), List.drop_of_length_le (by rw [zero128_length]; omega), List.append_nil]
    rfl
  rw [e]
  rfl
theorem ex_write2 : writeD D2 1 ex2 = (D3, 0) := by
  unfold writeD
  rw [if_pos (show D2.on = true from rfl), if_pos (show hasB D2.stored.length 1 = true by decide), if_pos ex2_length, power_neg (show D2.fuse < 0 by decide), if_pos (show D2.on = true from rfl)]
  rfl
theorem ex_back : backD 0 0 D3 = D2 := by
  unfold backD
  have e : Ds.settle 0 0 0 D3.pend D3.stored = D2.stored := by
    show ([zero128, ex1] : List (List UInt8)).set 1 (ex2.take (surv 0 0 0) ++ ex1.drop (surv 0 0 0)) = _
    have : surv 0 0 0 = 0 := by unfold surv; simp
    rw [this]
    rfl
  rw [e]
  rfl
theorem ex_read : readD D2 1 = ex1 ∧ readE D2 1 = 0 := by
  have h : readE D2 1 = 0 := by
    unfold readE
    rw [if_pos (show D2.on = true from rfl), if_pos (show hasB D2.stored.length 1 = true by decide)]
  refine ⟨?_, h⟩
  unfold readD
  rw [if_pos h]
  rfl
theorem ex_made : (madeCells (Value.int .u8 0).cells (128 * 1)).toList = cellsOf zz := made_zero 128
theorem cz_own {w : World} {own : Nat → Prop} {base n c : Nat} {A : Option Addr} {l : List UInt8} (h : w.ownsRow base 5 1 (.slice A n c) n (cellsOf l)) (hn : ∀ k, (Value.slice A n c).ownBlock = some k → ¬ own k) : Cz w own A (cellsOf l) := fun h0 => by
  obtain ⟨a, e, hb, hc⟩ := Cs.of_own h h0
  subst e
  exact ⟨a, rfl, hb, hn _ rfl, hc⟩
/-- What a call leaves of the disk and of the row beside it. -/
theorem DPost.beside {w w' : World} {B D : Nat} {S : Dsk} {own : Nat → Prop} (h : DPost w B D S own w') (hB : B ≤ w.heap.size) (hlow : ∀ k, own k → B ≤ k) {base n g cap : Nat} {l : List UInt8} (hr : w.ownsRow base 5 1 (.slice (some ⟨g, 0, none⟩) n cap) n (cellsOf l)) (hg : ¬ own g) :
    ∃ own', DiskAt w' B D S own' ∧ w'.ownsRow base 5 1 (.slice (some ⟨g, 0, none⟩) n cap) n (cellsOf l) ∧ ¬ own' g ∧ Below B w w' := by
  obtain ⟨own', h1, h2, h3⟩ := h
  have hlt := (hr.lt g rfl).2
  refine ⟨own', h1, own_out hr h2 fun k hk => by injection hk with hk; subst hk; exact hg, fun hk => ?_, h2.below (fun k _ hk => hlow k hk) hB⟩
  rcases h3 g hk with h | h
  · exact hg h
  · omega
set_option maxRecDepth 100000 in
set_option maxHeartbeats 2000000 in
theorem awake_any (w : World) : Calls Try.prog 7 #[] w fun e w' => e = .returned (.bool true) ∧ Below w.heap.size w w' := by
  obtain ⟨i0, hi0, hz0, hz1, hz2⟩ := info_parts u8_info
  go_enter Try.func7, Try.ntmps7
  go_wp2_with (first
    | (go_at_call 8
       refine (new_any 2 (by omega) (by omega) w).mono ?_
       rintro e w1 ⟨D, own1, rfl, hd1, hb1⟩
       have HD1 := Lib.hid hd1
       have HB1 := Lib.hid hb1
       clear hd1 hb1)
    | (refine wpList_make_full w1 rfl _ _ 38 rfl w1.heap.size 5 i0 _ 1 Try.underlying38 hi0 hz0 hz1 .i64 .i64 _ _ 128 rfl rfl rfl rfl (by rw [hz2]; omega) (by unfold maxLen; omega) (Nat.le_refl _) ?_
       intro w2 ho2 hg2
       rw [ex_made] at ho2
       obtain ⟨H, hH⟩ : ∃ H, H = w1.heap.size := ⟨_, rfl⟩
       rw [← hH] at ho2 ⊢
       have hlt2 := (ho2.lt H rfl).2
       obtain ⟨u0, -, e0, f0⟩ := own_at ho2 (j := 0) (by omega)
       obtain ⟨u1, -, e1, f1⟩ := own_at ho2 (j := 100) (by omega)
       have HW2 := Lib.hid ho2
       have HG2 := Lib.hid hg2
       have HH := Lib.hid hH
       clear ho2 hg2 hH)
    | fail)
  have hn1 : ¬ own1 H := fun h => by have := (HD1.out.lt h).2; have := HH.out; omega
  obtain ⟨a1, b1⟩ := own_set HW2.out 0 5
  obtain ⟨a2, b2⟩ := own_set a1 100 6
  have h3o : Out (fun k => k = H) w1 ((w2.setCell ⟨H, 0, none⟩ (.int .u8 5)).setCell ⟨H, 100, none⟩ (.int .u8 6)) :=
    ((Out.of_grown (S := fun k => k = H) HG2.out (fun k e => by cases e)).setCell (p := ⟨H, 0, none⟩) (.inl rfl) _).setCell (p := ⟨H, 100, none⟩) (.inl rfl) _
  have hd3 := HD1.out.out h3o (fun k hk e => by subst e; exact hn1 hk)
  have hlow1 : ∀ k, own1 k → w.heap.size ≤ k := fun k hk => (HD1.out.lt hk).1
  have hb3 := HB1.out.trans (h3o.below (B := w.heap.size) (fun k _ e => by have := HB1.out.size; have := HH.out; omega) HB1.out.size)
  have hr3 : ((w2.setCell ⟨H, 0, none⟩ (.int .u8 5)).setCell ⟨H, 100, none⟩ (.int .u8 6)).ownsRow H 5 1 (.slice (some ⟨H, 0, none⟩) 128 128) 128 (cellsOf ex1) := a2
  clear a1 b1 a2 b2 h3o
  generalize (w2.setCell ⟨H, 0, none⟩ (.int .u8 5)).setCell ⟨H, 100, none⟩ (.int .u8 6) = w3 at *
  refine (write_any hd3 1 (some ⟨H, 0, none⟩) 128 128 ex1 ex1_length (cz_own hr3 fun k hk => by injection hk with hk; subst hk; exact hn1) (fun a e => by injection e with e; subst e; rfl) (by simp [newD])).mono ?_
  rw [ex_write1]
  rintro e w4 ⟨rfl, hp4⟩
  obtain ⟨own4, hd4, hr4, hn4, hb34⟩ := hp4.beside hb3.size hlow1 hr3 hn1
  have HD4 := Lib.hid hd4
  have HR4 := Lib.hid hr4
  have HN4 := Lib.hid hn4
  have HB4 := Lib.hid (hb3.trans hb34)
  clear hd3 hlow1 hb3 hr3 hp4 hd4 hr4 hn4 hb34 hn1 e0 f0 e1 f1
  go_wp2_with fail
  refine (sync_any HD4.out (by decide)).mono ?_
  rw [ex_sync]
  rintro e w5 ⟨rfl, hp5⟩
  obtain ⟨own5, hd5, hr5, hn5, hb5⟩ := hp5.beside HB4.out.size (fun k hk => (HD4.out.lt hk).1) HR4.out HN4.out
  have HD5 := Lib.hid hd5
  have HR5 := Lib.hid hr5
  have HN5 := Lib.hid hn5
  have HB5 := Lib.hid (HB4.out.trans hb5)
  obtain ⟨u0, -, e0, f0⟩ := own_at hr5 (j := 0) (by omega)
  clear hp5 hd5 hr5 hn5 hb5
  go_wp2_with fail
  obtain ⟨a1, b1⟩ := own_set HR5.out 0 7
  have h6o : Out (fun k => k = H) w5 (w5.setCell ⟨H, 0, none⟩ (.int .u8 7)) := (Out.refl (fun k => k = H) _).setCell (p := ⟨H, 0, none⟩) (.inl rfl) _
  have hd6 := HD5.out.out h6o (fun k hk e => by subst e; exact HN5.out hk)
  have hb6 := HB5.out.trans (h6o.below (B := w.heap.size) (fun k _ e => by have := HB1.out.size; have := HH.out; omega) HB5.out.size)
  have hr6 : (w5.setCell ⟨H, 0, none⟩ (.int .u8 7)).ownsRow H 5 1 (.slice (some ⟨H, 0, none⟩) 128 128) 128 (cellsOf ex2) := a1
  clear a1 b1 h6o e0 f0
  generalize w5.setCell ⟨H, 0, none⟩ (.int .u8 7) = w6 at *
  refine (write_any hd6 1 (some ⟨H, 0, none⟩) 128 128 ex2 ex2_length (cz_own hr6 fun k hk => by injection hk with hk; subst hk; exact HN5.out) (fun a e => by injection e with e; subst e; rfl) (by simp [D2])).mono ?_
  rw [ex_write2]
  rintro e w7 ⟨rfl, hp7⟩
  obtain ⟨own7, hd7, -, -, hb7⟩ := hp7.beside hb6.size (fun k hk => (hd6.lt hk).1) hr6 HN5.out
  have HD7 := Lib.hid hd7
  have HB7 := Lib.hid (hb6.trans hb7)
  clear hd6 hb6 hr6 hp7 hd7 hb7
  go_wp2_with fail
  refine (back_any HD7.out 0 0 (by decide) (by decide) (by decide)).mono ?_
  rw [ex_back]
  rintro e w8 ⟨rfl, own8, hd8, ho8, -⟩
  have HD8 := Lib.hid hd8
  have HB8 := Lib.hid (HB7.out.trans (ho8.below (fun k _ hk => (HD7.out.lt hk).1) HB7.out.size))
  clear hd8 ho8
  go_wp2_with fail
  refine (read_any HD8.out 1 (by decide)).mono ?_
  rw [ex_read.1, ex_read.2]
  rintro e w9 ⟨hb9, A, n, rfl, hn, hA⟩
  rw [ex1_length] at hn
  subst hn
  obtain ⟨b, rfl, -, hbk⟩ := hA (by omega)
  have g0 : w9.cell? ⟨b, 0, none⟩ = some (.int .u8 5) := hbk.cell rfl
  have g1 : w9.cell? ⟨b, 100, none⟩ = some (.int .u8 6) := hbk.cell rfl
  have HB9 := Lib.hid (HB8.out.trans (hb9.mono HB8.out.size))
  clear hb9 hA hbk
  go_wp2
  go_ret
  exact ⟨rfl, HB9.out⟩
end Go.Proofs.Ytpdhnkmihlgdjaa
