/- Neighbours that are read, the document's. -/
import Derived.Test.YtegiplfgemdgdaaTwo
import Derived.RegionTactic
namespace Go.Proofs.Ytegiplfgemdgdaa
open Go.RowKit Me Va

def sliceLen : Value → Nat
  | .slice _ n _ => n
  | _ => 0
theorem own_cap' {w : World} {base size : Nat} {e : TypeId} {A : Option Addr} {n c : Nat} {xs : List Value} (h : w.ownsRow base e size (.slice A n c) n xs) : n ≤ c := by
  obtain ⟨A', c', e, hc⟩ := own_slice' h
  injection e with _ _ e
  omega
/-- Arcs and what is left are answered. -/
def RGetPost (w : World) (B : Nat) (out : List ArcD) (l : List UInt8) (x : Int) (e : Ending) (w' : World) : Prop :=
  Below w.heap.size w w' ∧ ∃ X m d A n c, e = .returned (.tuple #[.slice X m d, .agg #[.slice A n c, .int .i64 x]]) ∧ out.length = m ∧ m ≤ d ∧ Arcs w' w'.heap.size X out ∧ l.length = n ∧ n ≤ c ∧ Rd w B A l
/-- What stands behind some rounds: b is the reader's block, b + 1 the answer's. -/
def RGetRel (w : World) (B N : Nat) (R : List ArcD × List UInt8 × Int) (v : Value) (wr : World) : Prop :=
  ∃ X k d pre l x z z', v = .slice X k d ∧ pre.length = k ∧ k ≤ 2147483648 ∧ (∀ p ∈ pre, p.fits) ∧ wr.ownsRow (w.heap.size + 2) 49 2 v k (arcCells pre) ∧ Mdl w B wr w.heap.size l x ∧ Two wr (w.heap.size + 1) z z' ∧ Below w.heap.size w wr ∧
    ((x = 0 ∧ k ≤ N ∧ k ≤ sumOf pre ∧ sumOf pre ≤ 2147483647 ∧ goOn (N - k) pre l = R) ∨ (x ≠ 0 ∧ ([], l, x) = R))
theorem rget_end {w wa : World} {B : Nat} {R : List ArcD × List UInt8 × Int} {out : List ArcD} {l : List UInt8} {x : Int} {X A : Option Addr} {m d n c b : Nat} {v v' : Value} (h : (out, l, x) = R) (hb : Below w.heap.size w wa) (hbb : b = w.heap.size + 1) (hm : out.length = m) (hd : m ≤ d)
    (ha : Arcs ((wa.setCell ⟨b, 0, none⟩ v).setCell ⟨b, 1, none⟩ v') wa.heap.size X out) (hl : l.length = n) (hc : n ≤ c) (hr : Rd w B A l) :
    RGetPost w B R.1 R.2.1 R.2.2 (.returned (.tuple #[.slice X m d, .agg #[.slice A n c, .int .i64 x]])) ((wa.setCell ⟨b, 0, none⟩ v).setCell ⟨b, 1, none⟩ v') := by
  subst h
  refine ⟨(hb.setCell (p := ⟨b, 0, none⟩) (show w.heap.size ≤ b by omega) _).setCell (p := ⟨b, 1, none⟩) (show w.heap.size ≤ b by omega) _, X, m, d, A, n, c, rfl, hm, hd, ha.more (by simp [World.setCell]), hl, hc, hr⟩
theorem rget_end_drew {w wa : World} {B : Nat} {R : List ArcD × List UInt8 × Int} {e : Ending} (h : RGetPost w B R.1 R.2.1 R.2.2 e wa) : RGetPost w B R.1 R.2.1 R.2.2 e wa.drew := by
  obtain ⟨hb, X, m, d, A, n, c, he, hm, hd, ha, hl, hc, hr⟩ := h
  exact ⟨hb.drew, X, m, d, A, n, c, he, hm, hd, ha, hl, hc, hr⟩
theorem rgetrel_next {w wr : World} {B N k d n c : Nat} {R : List ArcD × List UInt8 × Int} {X A : Option Addr} {pre : List ArcD} {l l1 l2 : List UInt8} {y z to we : Nat} {x1 x2 : Int} {v v' : Value} (hpl : pre.length = k) (hlt : k < N) (hks : k ≤ sumOf pre)
    (hlw : leastOf pre < 4294967296) (hsu : sumOf pre < 2147483647) (h1 : numOf l 0 (4294967295 - leastOf pre) = (y, l1, x1)) (h2 : numOf l1 x1 (2147483646 - sumOf pre) = (z, l2, x2)) (hto : to = leastOf pre + y) (hwe : we = z + 1) (hto1 : to < 4294967296)
    (hf : ∀ p ∈ pre, p.fits) (hgo : goOn (N - k) pre l = R) (ho : wr.ownsRow (w.heap.size + 2) 49 2 (.slice X (k + 1) d) (k + 1) (arcCells pre ++ [.int .u32 (to : Int), .int .u32 (we : Int)]))
    (ht0 : Two wr w.heap.size (.slice A n c) (.int .i64 x2)) (hl : l2.length = n) (hc : n ≤ c) (hn : n ≤ 70368744177664) (hr : Rd w B A l2) (ht1 : Two wr (w.heap.size + 1) v v') (hb : Below w.heap.size w wr) : RGetRel w B N R (.slice X (k + 1) d) wr := by
  have hz : z ≤ 2147483646 - sumOf pre := by have := numOf_most l1 x1 (2147483646 - sumOf pre); rw [h2] at this; exact this
  have hs2 : sumOf (pre ++ [(⟨to, we⟩ : ArcD)]) = sumOf pre + we := by rw [sumOf_append]; simp [sumOf]
  refine ⟨X, k + 1, d, pre ++ [⟨to, we⟩], l2, x2, v, v', rfl, by simp [hpl], by omega, fun p hp => ?_, by rw [arcCells_append]; exact ho, ⟨A, n, c, ht0, hl, hc, hn, hr⟩, ht1, hb, ?_⟩
  · simp only [List.mem_append, List.mem_singleton] at hp
    rcases hp with hp | rfl
    · exact hf p hp
    · exact ⟨hto1, by show we < _; omega⟩
  · by_cases hx : x2 = 0
    · subst hx
      left
      refine ⟨rfl, by omega, by omega, by omega, ?_⟩
      rw [← hgo, show N - k = N - (k + 1) + 1 by omega, goOn_next hlw hsu h1 h2, hto, hwe]
    · right
      refine ⟨hx, ?_⟩
      rw [← hgo, show N - k = N - (k + 1) + 1 by omega, goOn_bad hlw hsu h1 h2 hx]
set_option maxRecDepth 100000 in
set_option maxHeartbeats 4000000 in
theorem refget_any (A : Option Addr) (n c : Nat) (l : List UInt8) (x : Int) (w : World) (B : Nat) (hl : l.length = n) (hc : n ≤ c) (hn : n ≤ 70368744177664) (hr : Rd w B A l) (hB : B ≤ w.heap.size) :
    Calls Try.prog 18 #[.agg #[.slice A n c, .int .i64 x]] w (RGetPost w B (getOf l x).1 (getOf l x).2.1 (getOf l x).2.2) := by
  obtain ⟨i0, hi0, hz0, hz1, hz2⟩ := info_parts arc_info
  have HL := Lib.hid hl
  have HR := Lib.hid hr
  clear hl hr
  obtain ⟨N, l1, x1, hnum⟩ : ∃ N l1 x1, numOf l x top = (N, l1, x1) := ⟨_, _, _, rfl⟩
  have hN : N < 18446744073709551616 := by have := numOf_fits l x top; rw [hnum] at this; exact this
  obtain ⟨R, hR⟩ : ∃ R, getOf l x = R := ⟨_, rfl⟩
  have hR' : (if x1 ≠ 0 then ([], l1, x1) else goOn N [] l1) = R := by
    rw [← hR]; unfold getOf; rw [hnum]
  have HNUM := Lib.hid hnum
  have HRR := Lib.hid hR'
  rw [hR]
  clear hR hnum hR'
  have T0 := Lib.hid ((((Two.new w (.slice A n c) (.int .i64 x) 40).alloc (.cells #[.slice none 0 0, .int .i64 0] 40))).alloc (.cells #[] 49))
  have T1 := Lib.hid ((Two.new' (H := w.heap.size + 1) (w.alloc (.cells #[.slice A n c, .int .i64 x] 40)) (.slice none 0 0) (.int .i64 0) 40 (by simp)).alloc (.cells #[] 49))
  have hb0 : Below w.heap.size w (((w.alloc (.cells #[.slice A n c, .int .i64 x] 40)).alloc (.cells #[.slice none 0 0, .int .i64 0] 40)).alloc (.cells #[] 49)) :=
    (((Below.refl _ _).alloc (Nat.le_refl _) _).alloc (by simp) _).alloc (by simp; omega) _
  have HO := Lib.hid (show (((w.alloc (.cells #[.slice A n c, .int .i64 x] 40)).alloc (.cells #[.slice none 0 0, .int .i64 0] 40)).alloc (.cells #[] 49)).ownsRow (w.heap.size + 2) 49 2 (.slice (some ⟨w.heap.size + 1 + 1, 0, none⟩) 0 0) 0 (arcCells []) by
    have := World.ownsRow_lit (base := w.heap.size + 2) (e := 49) (size := 2) ((w.alloc (.cells #[.slice A n c, .int .i64 x] 40)).alloc (.cells #[.slice none 0 0, .int .i64 0] 40)) #[] 0 (by simp) (by unfold maxLen; omega) rfl
    simpa [arcCells] using this)
  have HB0 := Lib.hid hb0
  have HR0 := Lib.hid (HR.out.below (hb0.mono hB))
  have hsz0 := hb0.size
  have hlt0 : B ≤ (((w.alloc (.cells #[.slice A n c, .int .i64 x] 40)).alloc (.cells #[.slice none 0 0, .int .i64 0] 40)).alloc (.cells #[] 49)).heap.size := by omega
  clear hb0
  obtain ⟨e0, e1, f0, f1⟩ := T0.out
  go_enter Try.func18, Try.ntmps18
  go_wp2_with fail
  rw [top_int]
  generalize ((w.alloc (.cells #[.slice A n c, .int .i64 x] 40)).alloc (.cells #[.slice none 0 0, .int .i64 0] 40)).alloc (.cells #[] 49) = w0 at *
  refine (rnum_any A n c l x top w0 B HL.out hc hn HR0.out hlt0).mono ?_
  rw [HNUM.out]
  rintro e w1 ⟨hb1, A1, n1, c1, rfl, hl1, hc1, hr1⟩
  have hn1 : n1 ≤ 70368744177664 := by
    have := numOf_le l x top
    rw [HNUM.out, HL.out] at this
    have hl1' : l1.length = n1 := hl1
    simp only at this
    omega
  have HBW := Lib.hid (HB0.out.trans (hb1.mono hsz0))
  have T2 := Lib.hid (T0.out.past hb1)
  have hrel0 : RGetRel w B N R (.slice (some ⟨w.heap.size + 1 + 1, 0, none⟩) 0 0) ((w1.setCell ⟨w.heap.size, 0, none⟩ (.slice A1 n1 c1)).setCell ⟨w.heap.size, 1, none⟩ (.int .i64 x1)) := by
    refine ⟨_, 0, 0, [], l1, x1, _, _, rfl, rfl, by omega, fun p hp => by simp at hp, ?_, ⟨A1, n1, c1, T2.out.set _ _, hl1, hc1, hn1, rd_back hr1 (HB0.out.mono hB)⟩, ((T1.out.past hb1).setOther (by simp) _).setOther (by simp) _,
      (HBW.out.setCell (p := ⟨w.heap.size, 0, none⟩) (Nat.le_refl _) _).setCell (p := ⟨w.heap.size, 1, none⟩) (Nat.le_refl _) _, ?_⟩
    · exact ownsRow_setCell_below (ownsRow_setCell_below (own_below' HO.out hb1) (a := ⟨w.heap.size, 0, none⟩) (show w.heap.size < _ by omega) _) (a := ⟨w.heap.size, 1, none⟩) (show w.heap.size < _ by omega) _
    · have h := HRR.out
      by_cases hx : x1 = 0
      · rw [if_neg (by simpa using hx)] at h
        exact .inl ⟨hx, Nat.zero_le _, Nat.zero_le _, by simp [sumOf], h⟩
      · rw [if_pos hx] at h
        exact .inr ⟨hx, h⟩
  have HREL := Lib.hid hrel0
  clear hrel0 hl1 hr1 hb1 T0 T1 HO HB0 HR0 HBW HRR
  obtain ⟨e0', e1', f0', f1'⟩ := T2.out
  clear e0 e1 f0 f1 hsz0 hlt0
  go_wp2
  go_loopw [4] (fun v wr => Hid (RGetRel w B N R v wr)) (fun v _ => N - sliceLen v)
  case atStart => exact HREL
  case round =>
    clear HREL
    obtain ⟨X, k, d, pre, l', x', z, z', rfl, hpl, hk31, hf, hown, ⟨A', n', c', ht0, hl', hc', hn', hr'⟩, ht1, hbw, hst⟩ := hrel.out
    have HPL := Lib.hid hpl
    have HKD := Lib.hid (own_cap' hown)
    have HF := Lib.hid hf
    have HW := Lib.hid hown
    have HT0 := Lib.hid ht0
    have HT1 := Lib.hid ht1
    have HL' := Lib.hid hl'
    have HR' := Lib.hid hr'
    have HBW := Lib.hid hbw
    have hsz := hbw.size
    obtain ⟨e0, e1, f0, f1⟩ := ht0
    obtain ⟨g0, g1, p0, p1⟩ := ht1
    clear hpl hf hown hl' hr' hbw hrel
    rcases hst with ⟨rfl, hkN, hks, hs31, hgo⟩ | ⟨hx', hst⟩
    · have HGO := Lib.hid hgo
      clear hgo
      by_cases hlt : k < N
      · have d1 : decide ((k : Int) < (N : Int)) = true := by simp; omega
        obtain ⟨lw, hlw⟩ : ∃ lw, lw = leastOf pre := ⟨_, rfl⟩
        obtain ⟨su, hsu⟩ : ∃ su, su = sumOf pre := ⟨_, rfl⟩
        have hlm := least_most pre HF.out
        rw [← hlw] at hlm
        rw [← hsu] at hks hs31
        have HAR := Lib.hid (Arcs.of_own HW.out HF.out)
        have hway : (¬ 0 < k ∧ lw = 0 ∧ su = 0) ∨ (0 < k ∧ ∃ (a : Addr) (j : Nat) (q : ArcD), X = some a ∧ (k : Int) - 1 = (j : Int) ∧ j < k ∧ q.to < 4294967296 ∧ (q.to : Int) + 1 = (lw : Int) ∧ wr.cell? (a.add (j * 2)) = some (.int .u32 (q.to : Int))) := by
          by_cases hk0 : k = 0
          · have hp0 : pre = [] := List.eq_nil_of_length_eq_zero (by rw [HPL.out]; exact hk0)
            exact .inl ⟨by omega, by rw [hlw, hp0]; rfl, by rw [hsu, hp0]; rfl⟩
          · obtain ⟨j, hj⟩ : ∃ j, k = j + 1 := ⟨k - 1, by omega⟩
            have hjl : j < pre.length := by rw [HPL.out]; omega
            obtain ⟨a, q, e, hq, -, g0, -, g2, -⟩ := HAR.out.at hjl
            have hle := leastOf_take hq
            rw [List.take_of_length_le (by rw [HPL.out]; omega), ← hlw] at hle
            exact .inr ⟨by omega, a, j, q, e, by omega, by omega, g2, by omega, g0⟩
        have HLW := Lib.hid hlw
        have HSU := Lib.hid hsu
        clear hlw hsu
        by_cases hno : lw = 4294967296 ∨ su = 2147483647
        · have HST := Lib.hid (show ([], [], noMore l') = R by
            rw [← HGO.out, show N - k = N - k - 1 + 1 by omega, goOn_stop (by rw [← HLW.out, ← HSU.out]; exact hno)])
          have hdd : decide (4294967295 < (lw : Int)) = true ∨ (decide (4294967295 < (lw : Int)) = false ∧ (2147483647 - (su : Int) == 0) = true ∧ su = 2147483647) := by
            rcases hno with e | e
            · exact .inl (by simp; omega)
            · by_cases e2 : lw = 4294967296
              · exact .inl (by simp; omega)
              · exact .inr ⟨by simp; omega, by rw [beq_iff_eq]; omega, e⟩
          clear hno
          rcases hway with ⟨-, hw0, hw1⟩ | ⟨hk1, a, j, q, rfl, hkj, hjk, hq2, hqz, hac⟩
          · exact absurd hdd (by simp [hw0, hw1])
          obtain ⟨ga0, ga1, pa0, pa1⟩ := HT1.out.alloc (.cells #[] 49)
          obtain ⟨r0, r1, -, -⟩ := (HT1.out.alloc (.cells #[] 49)).set (.slice none 0 0) (.int .i64 (noMore l'))
          by_cases hn0 : n' = 0
          · have d5 : ((n' : Int) == 0) = true := by rw [beq_iff_eq]; omega
            have hnm : noMore l' = 2 := by unfold noMore; rw [if_pos (by rw [HL'.out]; exact hn0)]
            rw [hnm] at HST r0 r1
            clear hn0 hnm
            rcases hdd with d6 | ⟨d6, d7, d8⟩
            all_goals
              go_wp2_with fail
              refine (refsum_any (some a) k d pre wr HPL.out (by omega) HAR.out).mono ?_
              rw [← HSU.out]
              rintro e w' ⟨rfl, rfl⟩
              go_wp2
              exact bodyPost_ret (v := .tuple #[.slice (some ⟨wr.heap.size, 0, none⟩) 0 0, .agg #[.slice none 0 0, .int .i64 2]]) (by simp [results, Try.results18, go_sem, r0, r1]) rfl (rget_end HST.out (HBW.out.alloc hsz _) rfl rfl (Nat.le_refl _) Arcs.empty rfl (Nat.le_refl _) Rd.empty)
          · have d5 : ((n' : Int) == 0) = false := by rw [beq_eq_false_iff_ne]; omega
            have hnm : noMore l' = 9 := by unfold noMore; rw [if_neg (by rw [HL'.out]; exact hn0)]
            rw [hnm] at HST r0 r1
            clear hn0 hnm
            rcases hdd with d6 | ⟨d6, d7, d8⟩
            all_goals
              go_wp2_with fail
              refine (refsum_any (some a) k d pre wr HPL.out (by omega) HAR.out).mono ?_
              rw [← HSU.out]
              rintro e w' ⟨rfl, rfl⟩
              go_wp2
              exact bodyPost_ret (v := .tuple #[.slice (some ⟨wr.heap.size, 0, none⟩) 0 0, .agg #[.slice none 0 0, .int .i64 9]]) (by simp [results, Try.results18, go_sem, r0, r1]) rfl (rget_end HST.out (HBW.out.alloc hsz _) rfl rfl (Nat.le_refl _) Arcs.empty rfl (Nat.le_refl _) Rd.empty)
        · have hlw1 : lw < 4294967296 := by omega
          have hsu1 : su < 2147483647 := by omega
          obtain ⟨m1, hm1⟩ : ∃ m1, m1 = 4294967295 - lw := ⟨_, rfl⟩
          obtain ⟨m2, hm2⟩ : ∃ m2, m2 = 2147483646 - su := ⟨_, rfl⟩
          have hz1' : 4294967295 - (lw : Int) = (m1 : Int) := by omega
          have hz2' : 2147483647 - (su : Int) = ((m2 + 1 : Nat) : Int) := by omega
          obtain ⟨m3, hm3⟩ : ∃ m3, m3 = m2 + 1 := ⟨_, rfl⟩
          rw [← hm3] at hz2'
          have hz3' : (m3 : Int) - 1 = (m2 : Int) := by omega
          have d6 : decide (4294967295 < (lw : Int)) = false := by simp; omega
          have d7 : ((m3 : Int) == 0) = false := by rw [beq_eq_false_iff_ne]; omega
          obtain ⟨y, la, xa, hna⟩ : ∃ y la xa, numOf l' 0 m1 = (y, la, xa) := ⟨_, _, _, rfl⟩
          obtain ⟨z, lb, xb, hnb⟩ : ∃ z lb xb, numOf la xa m2 = (z, lb, xb) := ⟨_, _, _, rfl⟩
          obtain ⟨to, hto⟩ : ∃ to, to = lw + y := ⟨_, rfl⟩
          obtain ⟨we, hwe⟩ : ∃ we, we = z + 1 := ⟨_, rfl⟩
          have hy : y ≤ m1 := by have := numOf_most l' 0 m1; rw [hna] at this; exact this
          have hz : z ≤ m2 := by have := numOf_most la xa m2; rw [hnb] at this; exact this
          have hto1 : to < 4294967296 := by omega
          have hwe1 : we < 4294967296 := by omega
          have hcz1 : (lw : Int) + (y : Int) = (to : Int) := by omega
          have hcz2 : (z : Int) + 1 = (we : Int) := by omega
          have hsum : su + we ≤ 2147483647 := by omega
          have hn8 : (k + 1) * 8 ≤ 140737488355328 := by omega
          have hnm : k + 1 ≤ maxLen := by unfold maxLen; omega
          have hm31 : m3 < 18446744073709551616 := by omega
          have HNA := Lib.hid hna
          have HNB := Lib.hid hnb
          have HTO := Lib.hid hto
          have HWE := Lib.hid hwe
          have HM1 := Lib.hid hm1
          have HM2 := Lib.hid hm2
          have HRW := Lib.hid (HR'.out.below (HBW.out.mono hB))
          have hBr : B ≤ wr.heap.size := Nat.le_trans hB hsz
          clear hna hnb hto hwe hno hm1 hm2 hm3
          have hway2 : (¬ 0 < k ∧ Hid ((4294967295 : Int) = (m1 : Int)) ∧ (y : Int) = (to : Int)) ∨ (0 < k ∧ ∃ (a : Addr) (j : Nat) (q : ArcD), X = some a ∧ (k : Int) - 1 = (j : Int) ∧ j < k ∧ q.to < 4294967296 ∧ (q.to : Int) + 1 = (lw : Int) ∧ wr.cell? (a.add (j * 2)) = some (.int .u32 (q.to : Int))) := by
            rcases hway with ⟨hk1, hlw0, -⟩ | h
            · exact .inl ⟨hk1, Lib.hid (by omega), by omega⟩
            · exact .inr h
          clear hway
          rcases hway2 with ⟨hk1, HM1C, hyt⟩ | ⟨hk1, a, j, q, rfl, hkj, hjk, hq2, hqz, hac⟩
          all_goals
            go_wp2_with fail
            refine (refsum_any _ k d pre wr HPL.out (by omega) HAR.out).mono ?_
            rw [← HSU.out]
            rintro e w' ⟨rfl, rfl⟩
            go_wp2_with fail
            first | rw [HM1C.out] | skip
            refine (rnum_any A' n' c' l' 0 m1 wr B HL'.out hc' hn' HRW.out hBr).mono ?_
            rw [HNA.out]
            rintro e w3 ⟨hb3, A3, n3, c3, rfl, hl3, hc3, hr3⟩
            have hn3 : n3 ≤ 70368744177664 := by
              have := numOf_le l' 0 m1
              rw [HNA.out, HL'.out] at this
              have e : la.length = n3 := hl3
              simp only at this
              omega
            have HL3 := Lib.hid hl3
            have HR3 := Lib.hid (rd_back hr3 (HBW.out.mono hB))
            have HB3 := Lib.hid (HBW.out.trans (hb3.mono hsz))
            have hs3 := HB3.out.size
            have HB3a := Lib.hid (HB3.out.alloc hs3 (.cells #[.slice A3 n3 c3, .int .i64 xa] 40))
            have HW3 := Lib.hid ((own_below' HW.out hb3).alloc (.cells #[.slice A3 n3 c3, .int .i64 xa] 40))
            have T03 := Lib.hid ((HT0.out.past hb3).alloc (.cells #[.slice A3 n3 c3, .int .i64 xa] 40))
            have T13 := Lib.hid ((HT1.out.past hb3).alloc (.cells #[.slice A3 n3 c3, .int .i64 xa] 40))
            obtain ⟨u0, u1, -, -⟩ := Two.new w3 (.slice A3 n3 c3) (.int .i64 xa) 40
            clear hl3 hr3 hb3
            go_wp2_with fail
            refine (rnum_any A3 n3 c3 la xa m2 (w3.alloc (.cells #[.slice A3 n3 c3, .int .i64 xa] 40)) B HL3.out hc3 hn3 (HR3.out.below (HB3a.out.mono hB)) (Nat.le_trans hB HB3a.out.size)).mono ?_
            rw [HNB.out]
            rintro e w4 ⟨hb4, A4, n4, c4, rfl, hl4, hc4, hr4⟩
            have hn4 : n4 ≤ 70368744177664 := by
              have := numOf_le la xa m2
              rw [HNB.out, HL3.out] at this
              have e : lb.length = n4 := hl4
              simp only at this
              omega
            have HL4 := Lib.hid hl4
            have HR4 := Lib.hid (rd_back hr4 (HB3a.out.mono hB))
            have HB4 := Lib.hid (HB3a.out.trans (hb4.mono HB3a.out.size))
            have hs4 := HB4.out.size
            have HB4a := Lib.hid (HB4.out.alloc hs4 (.cells #[.slice A4 n4 c4, .int .i64 xb] 40))
            have HW4 := Lib.hid ((own_below' HW3.out hb4).alloc (.cells #[.slice A4 n4 c4, .int .i64 xb] 40))
            have T04 := Lib.hid ((T03.out.past hb4).alloc (.cells #[.slice A4 n4 c4, .int .i64 xb] 40))
            have T14 := Lib.hid ((T13.out.past hb4).alloc (.cells #[.slice A4 n4 c4, .int .i64 xb] 40))
            obtain ⟨y0, y1, -, -⟩ := Two.new w4 (.slice A4 n4 c4) (.int .i64 xb) 40
            obtain ⟨x0, x1', x2, x3⟩ := T04.out
            clear hl4 hr4 hb4 T03 T13 u0 u1 HW3 HB3 HB3a
            have HWs := Lib.hid (ownsRow_setCell_below (ownsRow_setCell_below HW4.out (a := ⟨w.heap.size, 0, none⟩) (show w.heap.size < _ by omega) (.slice A4 n4 c4)) (a := ⟨w.heap.size, 1, none⟩) (show w.heap.size < _ by omega) (.int .i64 xb))
            have HBs := Lib.hid ((HB4a.out.setCell (p := ⟨w.heap.size, 0, none⟩) (Nat.le_refl _) (.slice A4 n4 c4)).setCell (p := ⟨w.heap.size, 1, none⟩) (Nat.le_refl _) (.int .i64 xb))
            have T0s := Lib.hid (T04.out.set (.slice A4 n4 c4) (.int .i64 xb))
            have T1s := Lib.hid ((T14.out.setOther (p := ⟨w.heap.size, 0, none⟩) (by simp) (.slice A4 n4 c4)).setOther (p := ⟨w.heap.size, 1, none⟩) (by simp) (.int .i64 xb))
            go_wp2_with (at_builtin
                         refine wpList_append_own _ rfl (.tmp 72) (.tmp 81) 23 rfl (w.heap.size + 2) 49 i0 _ 2 8 Try.underlying23 hi0 hz0 hz1 hz2 rfl (by decide) _ k _ rfl (HWs.out.alloc _) ⟨w4.heap.size + 1, 0, none⟩ 1 1 [.int .u32 (to : Int), .int .u32 (we : Int)] rfl rfl (one_arc (by simp [World.setCell])) one_cells hnm hn8 (by simp [World.setCell]; omega) ?_
                         intro v5 w5 hown5 hg5' hat5)
            have hg5 := (show World.grownBy _ w5 (Value.slice _ k d).ownBlock from hg5')
            clear hat5 hg5'
            obtain ⟨X5, d5, rfl, hd5⟩ := own_slice' hown5
            have hne0 : (Value.slice _ k d).ownBlock ≠ some w.heap.size := (fun e => by have := (HWs.out.lt _ e).1; omega)
            have hne1 : (Value.slice _ k d).ownBlock ≠ some (w.heap.size + 1) := (fun e => by have := (HWs.out.lt _ e).1; omega)
            have HBs5 := Lib.hid ((HBs.out.alloc HBs.out.size _).grown hg5 (by simp [World.setCell]; omega) (fun k hk => by have := (HWs.out.lt k hk).1; omega))
            have HREL := Lib.hid (rgetrel_next (N := N) (R := R) (X := X5) (d := d5) (l := l') (l1 := la) (l2 := lb) (y := y) (z := z) (x1 := xa) (x2 := xb) HPL.out hlt (by rw [← HSU.out]; exact hks) (by rw [← HLW.out]; exact hlw1) (by rw [← HSU.out]; exact hsu1) (by rw [← HLW.out, ← HM1.out]; exact HNA.out) (by rw [← HSU.out, ← HM2.out]; exact HNB.out) (by rw [← HLW.out]; exact HTO.out) HWE.out hto1 HF.out HGO.out hown5
              ((T0s.out.alloc _).grown hg5 hne0) HL4.out hc4 hn4 HR4.out ((T1s.out.alloc _).grown hg5 hne1) HBs5.out)
            exact ⟨HREL, by show N - (k + 1) < N - k; omega⟩
      · have d1 : decide ((k : Int) < (N : Int)) = false := by simp; omega
        have HST := Lib.hid (show (pre, l', 0) = R by rw [← HGO.out, show N - k = 0 by omega]; rfl)
        obtain ⟨r0, r1, -, -⟩ := HT1.out.set (.slice A' n' c') (.int .i64 0)
        go_wp2
        go_region
        all_goals
          go_wp2
          exact bodyPost_ret (v := .tuple #[.slice X k d, .agg #[.slice A' n' c', .int .i64 0]]) (by simp [results, Try.results18, go_sem, r0, r1]) rfl (rget_end_drew (rget_end HST.out HBW.out rfl HPL.out HKD.out ((Arcs.of_own (ownsRow_setCell_below (ownsRow_setCell_below HW.out (a := ⟨w.heap.size + 1, 0, none⟩) (show w.heap.size + 1 < _ by omega) _) (a := ⟨w.heap.size + 1, 1, none⟩) (show w.heap.size + 1 < _ by omega) _) HF.out).more (by simp [World.setCell])) HL'.out hc' HR'.out))
    · have d0 : (x' == 0) = false := by rw [beq_eq_false_iff_ne]; exact hx'
      have d1 : (x' != 0) = true := by rw [bne_iff_ne]; exact hx'
      have HST := Lib.hid hst
      obtain ⟨r0, r1, -, -⟩ := (HT1.out.alloc (.cells #[] 49)).set (.slice A' n' c') (.int .i64 x')
      obtain ⟨s0, s1, s2, s3⟩ := HT0.out.alloc (.cells #[] 49)
      obtain ⟨t0, t1, t2, t3⟩ := HT1.out.alloc (.cells #[] 49)
      clear hx' hst
      go_wp2
      go_region
      all_goals
        go_wp2
        exact bodyPost_ret (v := .tuple #[.slice (some ⟨wr.heap.size, 0, none⟩) 0 0, .agg #[.slice A' n' c', .int .i64 x']]) (by simp [results, Try.results18, go_sem, r0, r1]) rfl (rget_end_drew (rget_end HST.out (HBW.out.alloc hsz _) rfl rfl (Nat.le_refl _) Arcs.empty HL'.out hc' HR'.out))
end Go.Proofs.Ytegiplfgemdgdaa
