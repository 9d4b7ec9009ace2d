/- Neighbours that are read, the program's. -/
import Derived.Test.YtegiplfgemdgdaaGetM
import Derived.Test.YtegiplfgemdgdaaAwakeA
namespace Go.Proofs.Ytegiplfgemdgdaa
open Go.RowKit Me Va

theorem arc_info : (Try.prog.info? 49).map (fun i => (i.zero, i.size, i.bytes)) = some (some (.agg #[.int .u32 0, .int .u32 0]), 2, 8) := by kernel_rfl
/-- What is owned is a slice, of whatever size the elements are. -/
theorem own_slice' {w : World} {base size : Nat} {e : TypeId} {v : Value} {n : Nat} {xs : List Value} (h : w.ownsRow base e size v n xs) : ∃ A c, v = .slice A n c ∧ n ≤ c := by
  rcases h.2 with ⟨rfl, rfl⟩ | ⟨g, cap, cur, rfl, -, -, hc, -⟩
  · exact ⟨_, _, rfl, Nat.le_refl _⟩
  · exact ⟨_, _, rfl, hc⟩
theorem own_below' {w w' : World} {base size : Nat} {e : TypeId} {v : Value} {n : Nat} {xs : List Value} (h : w.ownsRow base e size v n xs) (hb : Below w.heap.size w w') : w'.ownsRow base e size v n xs :=
  h.kept (row := none) ⟨hb.os, hb.tape, hb.output, hb.size, fun k hk _ => hb.block k hk⟩ (by
    rcases h.2 with ⟨rfl, _⟩ | ⟨g, cap, cur, rfl, _⟩
    · exact .inl rfl
    · exact .inr (by simp [Value.ownBlock]))
/-- Arcs of one's own are answered, and the reader behind them; nothing else has turned. -/
def GetPost (w : World) (g : Nat) (out : List ArcD) (l : List UInt8) (x : Int) (e : Ending) (w' : World) : Prop :=
  ∃ A n c, e = .returned (.slice A n c) ∧ n ≤ c ∧ w'.ownsRow w.heap.size 49 2 (.slice A n c) n (arcCells out) ∧ (∀ p ∈ out, p.fits) ∧ Rdr w' g l x ∧ w.grownBy w' (some g)
/-- What stands behind some rounds. -/
def GetRel (w : World) (g N : Nat) (R : List ArcD × List UInt8 × Int) (k : Nat) (v : Value) (least sum : Nat) (wr : World) : Prop :=
  ∃ pre l, pre.length = k ∧ least = leastOf pre ∧ sum = sumOf pre ∧ k ≤ sum ∧ sum ≤ 2147483647 ∧ (∀ p ∈ pre, p.fits) ∧ goOn (N - k) pre l = R ∧ wr.ownsRow w.heap.size 49 2 v k (arcCells pre) ∧ Rdr wr g l 0 ∧ w.grownBy wr (some g)
theorem getrel_next {w wr : World} {g N k : Nat} {R : List ArcD × List UInt8 × Int} {v : Value} {pre : List ArcD} {l2 : List UInt8} {t u : Nat} (hk : pre.length = k) (ht : t < 4294967296) (hu : 1 ≤ u) (hs : sumOf pre + u ≤ 2147483647) (hks : k ≤ sumOf pre)
    (hf : ∀ p ∈ pre, p.fits) (hg : goOn (N - (k + 1)) (pre ++ [⟨t, u⟩]) l2 = R) (ho : wr.ownsRow w.heap.size 49 2 v (k + 1) (arcCells pre ++ [.int .u32 (t : Int), .int .u32 (u : Int)])) (hr : Rdr wr g l2 0) (hw : w.grownBy wr (some g)) :
    GetRel w g N R (k + 1) v (t + 1) (sumOf pre + u) wr := by
  refine ⟨pre ++ [⟨t, u⟩], l2, by simp [hk], (leastOf_snoc pre ⟨t, u⟩).symm, by rw [sumOf_append]; simp [sumOf], by omega, hs, fun p hp => ?_, hg, ?_, hr, hw⟩
  · simp only [List.mem_append, List.mem_singleton] at hp
    rcases hp with hp | rfl
    · exact hf p hp
    · exact ⟨ht, by show u < _; omega⟩
  · rw [arcCells_append]; exact ho
theorem get_none {w w' : World} {g : Nat} {l : List UInt8} {x : Int} {R : List ArcD × List UInt8 × Int} (h : ([], l, x) = R) (hr : Rdr w' g l x) (hg : w.grownBy w' (some g)) : GetPost w g R.1 R.2.1 R.2.2 (.returned (.slice none 0 0)) w' := by
  subst h
  exact ⟨none, 0, 0, rfl, Nat.le_refl _, World.ownsRow_nil _ _ _ _, fun p hp => by simp at hp, hr, hg⟩
theorem one_arc {w : World} {t u : Int} {T : TypeId} {H : Nat} (hH : w.heap.size = H) : ∀ (j : Nat) (v : Value), ([.int .u32 t, .int .u32 u] : List Value)[j]? = some v → (w.alloc (.cells #[.int .u32 t, .int .u32 u] T)).cell? ((⟨H, 0, none⟩ : Addr).add j) = some v := by
  intro j v hj
  subst hH
  obtain ⟨a, e, -, hc⟩ := Cs.lit w #[.int .u32 t, .int .u32 u] T (by simp)
  injection e with e
  subst e
  exact hc j v hj
/-- A reader does not feel an append to a row that lies behind it. -/
theorem rdr_app {w3 w4 w5 : World} {g base n size : Nat} {e : TypeId} {v : Value} {xs : List Value} {l : List UInt8} {x : Int} (h : Rdr w4 g l x) (ho : w3.ownsRow base e size v n xs) (hg : w4.grownBy w5 v.ownBlock) (hb : g < base) : Rdr w5 g l x :=
  h.below ((Below.refl (g + 1) w4).grown hg h.here (fun k hk => by have := (ho.lt k hk).1; omega))
theorem one_cells {t u : Int} : ∀ v ∈ ([.int .u32 t, .int .u32 u] : List Value), v.oneCell' = true := by
  intro v hv
  simp only [List.mem_cons, List.not_mem_nil, or_false] at hv
  rcases hv with rfl | rfl <;> rfl
set_option maxRecDepth 100000 in
set_option maxHeartbeats 2000000 in
theorem get_any (g : Nat) (l : List UInt8) (x : Int) (w : World) (h : Rdr w g l x) :
    Calls Try.prog 14 #[.pointer (some ⟨g, 0, none⟩)] w (GetPost w g (getOf l x).1 (getOf l x).2.1 (getOf l x).2.2) := by
  obtain ⟨i0, hi0, hz0, hz1, hz2⟩ := info_parts arc_info
  have hgw := h.here
  have HH := Lib.hid h
  clear h
  obtain ⟨N, l1, x1, hnum⟩ : ∃ N l1 x1, numOf l x top = (N, l1, x1) := ⟨_, _, _, rfl⟩
  have hN : N < 18446744073709551616 := by have := numOf_fits l x top; rw [hnum] at this; exact this
  obtain ⟨R, hR⟩ : ∃ R, getOf l x = R := ⟨_, rfl⟩
  have HNUM := Lib.hid hnum
  have hR' : (if x1 ≠ 0 then ([], l1, x1) else goOn N [] l1) = R := by
    rw [← hR]; unfold getOf; rw [hnum]
  rw [hR]
  clear hR hnum
  by_cases hx : x1 = 0
  · rw [if_neg (by simpa using hx)] at hR'
    have HRR := Lib.hid hR'
    have HX := Lib.hid hx
    clear hx hR'
    go_enter Try.func14, Try.ntmps14
    go_wp2_with fail
    rw [top_int]
    refine (num_any g l x top w HH.out).mono ?_
    rw [HNUM.out]
    rintro e w1 ⟨rfl, hr1, hg1⟩
    have HREL := Lib.hid (show GetRel w g N R 0 (.slice none 0 0) 0 0 w1 from ⟨[], l1, rfl, rfl, rfl, Nat.le_refl _, by omega, fun p hp => by simp at hp, HRR.out, World.ownsRow_nil _ _ _ _, by rw [← HX.out]; exact hr1, hg1⟩)
    clear hr1 hg1
    go_wp2
    go_loopw [3, 4, 5, 9] (fun v x y i wr => ∃ k : Nat, k ≤ N ∧ i = .int .u64 (k : Int) ∧ (∃ s t : Nat, s ≤ 4294967296 ∧ t ≤ 2147483647 ∧ x = .int .u64 (s : Int) ∧ y = .int .u64 (t : Int) ∧ Hid (GetRel w g N R k v s t wr))) (fun _ _ _ i _ => N - (intOf i).toNat)
    case atStart => exact ⟨0, Nat.zero_le _, rfl, 0, 0, by omega, by omega, rfl, rfl, HREL⟩
    case round =>
      clear HREL
      obtain ⟨k, hk, rfl, s, t, hs, ht, rfl, rfl, HP⟩ := hrel
      obtain ⟨pre, l', hpl, hle, hsu, hks, -, hf, hgo, hown, hrd, hgr⟩ := HP.out
      have HPL := Lib.hid hpl
      have HLE := Lib.hid hle
      have HSU := Lib.hid hsu
      have HF := Lib.hid hf
      have HGO := Lib.hid hgo
      have HW := Lib.hid hown
      have HRD := Lib.hid hrd
      have HGR := Lib.hid hgr
      have hsz := hgr.size
      clear hpl hle hsu hf hgo hown hrd hgr HP
      by_cases hlt : k < N
      · obtain ⟨f, hfu⟩ : ∃ f, N - k = f + 1 := ⟨N - k - 1, by omega⟩
        have HFU := Lib.hid hfu
        clear hfu
        by_cases hno : s = 4294967296 ∨ t = 2147483647
        · have HST := Lib.hid (show ([], [], noMore l') = R by
            rw [← HGO.out, HFU.out, goOn_stop (by rw [← HLE.out, ← HSU.out]; exact hno)])
          have hne : (noMore l' != 0) = true := by unfold noMore; split <;> decide
          go_wp2_with fail
          refine (next_no g l' s t wr HRD.out hno).mono ?_
          rintro e w3 ⟨rfl, hr3, hg3⟩
          have HR3 := Lib.hid hr3
          have HG3 := Lib.hid (HGR.out.trans hg3)
          clear hr3 hg3 hno
          have HR4 := Lib.hid (HR3.out.alloc (.cells #[.int .u32 0, .int .u32 0] 49))
          have HG4 := Lib.hid (HG3.out.trans (grown_alloc w3 (.cells #[.int .u32 0, .int .u32 0] 49) (some g)))
          go_wp2_with fail
          refine (err_any g [] (noMore l') _ HR4.out).mono ?_
          rintro e w' ⟨rfl, rfl⟩
          go_wp2
          go_ret
          exact get_none HST.out HR4.out HG4.out
        · have hs1 : s < 4294967296 := by omega
          have ht1 : t < 2147483647 := by omega
          obtain ⟨y, la, xa, hna⟩ : ∃ y la xa, numOf l' 0 (4294967295 - s) = (y, la, xa) := ⟨_, _, _, rfl⟩
          obtain ⟨z, lb, xb, hnb⟩ : ∃ z lb xb, numOf la xa (2147483646 - t) = (z, lb, xb) := ⟨_, _, _, rfl⟩
          obtain ⟨to, hto⟩ : ∃ to, to = s + y := ⟨_, rfl⟩
          obtain ⟨we, hwe⟩ : ∃ we, we = z + 1 := ⟨_, rfl⟩
          have hy : y ≤ 4294967295 - s := by have := numOf_most l' 0 (4294967295 - s); rw [hna] at this; exact this
          have hz : z ≤ 2147483646 - t := by have := numOf_most la xa (2147483646 - t); rw [hnb] at this; exact this
          have hto1 : to < 4294967296 := by omega
          have hwe1 : we < 4294967296 := by omega
          have hwe2 : 1 ≤ we := by omega
          have hsum : t + we ≤ 2147483647 := by omega
          have HNA := Lib.hid hna
          have HNB := Lib.hid hnb
          have HTO := Lib.hid hto
          have HWE := Lib.hid hwe
          clear hna hnb hto hwe hno
          have hn8 : (k + 1) * 8 ≤ 140737488355328 := by omega
          have hnm : k + 1 ≤ maxLen := by unfold maxLen; omega
          go_wp2_with fail
          refine (next_any g l' s t wr HRD.out hs1 ht1 y z la lb xa xb HNA.out HNB.out to we HTO.out HWE.out).mono ?_
          rintro e w3 ⟨rfl, hr3, hg3⟩
          have HR3 := Lib.hid hr3
          have HG3 := Lib.hid (HGR.out.trans hg3)
          have HW3 := Lib.hid (own_past HW.out hg3 hgw)
          clear hr3 hg3
          have HR4 := Lib.hid (HR3.out.alloc (.cells #[.int .u32 (to : Int), .int .u32 (we : Int)] 49))
          have HG4 := Lib.hid (HG3.out.trans (grown_alloc w3 (.cells #[.int .u32 (to : Int), .int .u32 (we : Int)] 49) (some g)))
          have HW4 := Lib.hid (HW3.out.alloc (.cells #[.int .u32 (to : Int), .int .u32 (we : Int)] 49))
          by_cases hxb : xb = 0
          · have hne : (xb != 0) = false := by rw [hxb]; rfl
            have HNX := Lib.hid (show goOn f (pre ++ [⟨to, we⟩]) lb = R by
              have h1 := HNA.out
              have h2 := HNB.out
              rw [HLE.out] at h1
              rw [HSU.out, hxb] at h2
              rw [← HGO.out, HFU.out, goOn_next (by rw [← HLE.out]; exact hs1) (by rw [← HSU.out]; exact ht1) h1 h2, HTO.out, HWE.out, HLE.out])
            have HXB := Lib.hid hxb
            clear hxb
            go_wp2_with fail
            refine (err_any g lb xb _ HR4.out).mono ?_
            rintro e w' ⟨rfl, rfl⟩
            obtain ⟨q0, q1⟩ := new_two w3 (.int .u32 (to : Int)) (.int .u32 (we : Int)) 49
            go_wp2_with (at_builtin
                         refine wpList_append_own _ rfl (.tmp 18) (.tmp 20) 23 rfl w.heap.size 49 i0 _ 2 8 Try.underlying23 hi0 hz0 hz1 hz2 rfl (by decide) u3 k _ rfl (HW4.out.alloc _) ⟨w3.heap.size + 1, 0, none⟩ 1 1 [.int .u32 (to : Int), .int .u32 (we : Int)] rfl rfl (one_arc (by simp)) one_cells hnm hn8 (by have := HG4.out.size; simp at this ⊢; omega) ?_
                         intro v5 w5 hown5 hg5 hat5
                         have y0 := (cell_past (o := 0) hg5 (by simp; omega) (own_ne HW3.out)).trans ((World.cell?_alloc_lt _ _ _ (by simp)).trans q0)
                         have y1 := (cell_past (o := 1) hg5 (by simp; omega) (own_ne HW3.out)).trans ((World.cell?_alloc_lt _ _ _ (by simp)).trans q1)
                         have hlt5 : w3.heap.size < w5.heap.size := Nat.lt_of_lt_of_le (by simp; omega) hg5.size
                         have HO5 := Lib.hid hown5
                         have HR5 := Lib.hid (rdr_app (HR4.out.alloc _) HW3.out hg5 hgw)
                         have HG5 := Lib.hid ((HG4.out.trans (grown_alloc _ _ (some g))).andThen hg5 (fun j hj => .inl (HW3.out.lt j hj).1))
                         clear hown5 hg5 hat5 q0 q1)
            refine (behind_any to we w5 hto1).mono ?_
            rintro e w6 ⟨rfl, hb6⟩
            have z1 := (hb6.cell (p := ⟨w3.heap.size, 1, none⟩) hlt5).trans y1
            have HREL := Lib.hid (getrel_next (N := N) (R := R) HPL.out hto1 hwe2 (by rw [← HSU.out]; exact hsum) (by rw [← HSU.out]; exact hks) HF.out (by rw [show N - (k + 1) = f by have := HFU.out; omega]; exact HNX.out) (own_below' HO5.out hb6)
              (show Rdr w6 g lb 0 by have := HR5.out.past hb6; rw [HXB.out] at this; exact this) (HG5.out.trans (grown_below hb6 _)))
            rw [← HSU.out] at HREL
            clear hb6 HO5 HR5 HG5 y0 y1
            go_wp2
            go_roundw
            case rel => exact ⟨k + 1, by omega, by go_num, to + 1, t + we, by omega, hsum, by go_num, by go_num, HREL⟩
            case measure => simp [intOf]; omega
          · have hne : (xb != 0) = true := by rw [bne_iff_ne]; exact hxb
            have HST := Lib.hid (show ([], lb, xb) = R by
              have h1 := HNA.out
              have h2 := HNB.out
              rw [HLE.out] at h1
              rw [HSU.out] at h2
              rw [← HGO.out, HFU.out, goOn_bad (by rw [← HLE.out]; exact hs1) (by rw [← HSU.out]; exact ht1) h1 h2 hxb])
            clear hxb
            go_wp2_with fail
            refine (err_any g lb xb _ HR4.out).mono ?_
            rintro e w' ⟨rfl, rfl⟩
            go_wp2
            go_ret
            exact get_none HST.out HR4.out HG4.out
      · have HE := Lib.hid (show (pre, l', 0) = R by rw [← HGO.out, show N - k = 0 by omega]; rfl)
        go_wp2
        go_ret
        obtain ⟨A, c, hv, hc⟩ := own_slice' HW.out
        have hHE := HE.out
        subst hv
        rw [← hHE]
        exact ⟨A, k, c, rfl, hc, HW.out, HF.out, HRD.out, HGR.out⟩
  · rw [if_pos hx] at hR'
    have HN0 := Lib.hid (show N = 0 by
      have h1 := HNUM.out
      have h2 := numOf_zero (l := l) (x := x) (most := top) (by rw [h1]; exact hx)
      rw [h1] at h2
      exact h2)
    have HST := Lib.hid hR'
    clear hx hR'
    go_enter Try.func14, Try.ntmps14
    go_wp2_with fail
    rw [top_int]
    refine (num_any g l x top w HH.out).mono ?_
    rw [HNUM.out, HN0.out]
    rintro e w1 ⟨rfl, hr1, hg1⟩
    have HR1 := Lib.hid hr1
    have HG1 := Lib.hid hg1
    clear hr1 hg1
    go_wp2
    go_loopw [3, 9] (fun v i wr => v = .slice none 0 0 ∧ i = .int .u64 0 ∧ wr = w1) (fun _ _ _ => 0)
    case atStart => exact ⟨rfl, rfl, rfl⟩
    case round =>
      obtain ⟨rfl, rfl, rfl⟩ := hrel
      go_wp2
      go_ret
      exact get_none HST.out HR1.out HG1.out
end Go.Proofs.Ytegiplfgemdgdaa
