/- EdgeJoins: of two texts, the first one with a line feed behind it, the edges stand one behind the other; an error of the second one stands as many lines further behind. -/
import Derived.Test.YtbedepnmgnlijaaDoorEdV
import Derived.Test.YtbedepnmgnlijaaDoorEdJ
namespace Go.Proofs.YtbedepnmgnlijaaDoor
open Go.RowKit Me Tx Ed Go.Shelf Go.Lib Go.ChangeShapes

theorem readM_err : ∀ (ls : List (List UInt8)) (m k : Nat) (acc : List EdD), (readM m k acc ls).2.2 ≠ 0 → (readM m k acc ls).1 = []
  | [], m, k, acc, h => by rw [readM] at h; exact absurd rfl h
  | l :: ls, m, k, acc, h => by
    by_cases h0 : (oneS l).2.2 = 0
    · cases h1 : (oneS l).2.1 with
      | true =>
        by_cases h2 : m ≤ acc.length
        · rw [readM_full h0 h1 h2]
        · rw [readM_one h0 h1 h2] at h ⊢; exact readM_err ls _ _ _ h
      | false => rw [readM_no h0 h1] at h ⊢; exact readM_err ls _ _ _ h
    · rw [readM_bad h0]
theorem readB_err {b : List UInt8} (h : (readB b).2.2 ≠ 0) : (readB b).1 = [] := by
  unfold readB at h ⊢
  split
  · rfl
  · rename_i h1
    rw [if_neg h1] at h
    exact readM_err _ _ _ _ h
theorem readM_len : ∀ (ls : List (List UInt8)) (m k : Nat) (acc : List EdD), (readM m k acc ls).1.length ≤ acc.length + ls.length
  | [], m, k, acc => by rw [readM]; simp
  | l :: ls, m, k, acc => by
    by_cases h0 : (oneS l).2.2 = 0
    · cases h1 : (oneS l).2.1 with
      | true =>
        by_cases h2 : m ≤ acc.length
        · rw [readM_full h0 h1 h2]; simp
        · rw [readM_one h0 h1 h2]
          have := readM_len ls m (k + 1) (acc ++ [(oneS l).1])
          simp at this ⊢; omega
      | false =>
        rw [readM_no h0 h1]
        have := readM_len ls m (k + 1) acc
        simp at this ⊢; omega
    · rw [readM_bad h0]; simp
theorem readB_len (b : List UInt8) : (readB b).1.length ≤ b.length + 1 := by
  unfold readB
  split
  · simp
  · have h1 := readM_len (linesG [] b) 65536 0 []
    have h2 := linesG_length b []
    simp at h1
    omega
theorem readM_num : ∀ (ls : List (List UInt8)) (m k : Nat) (acc : List EdD), (readM m k acc ls).2.1 ≤ k + ls.length
  | [], m, k, acc => by rw [readM]; simp
  | l :: ls, m, k, acc => by
    by_cases h0 : (oneS l).2.2 = 0
    · cases h1 : (oneS l).2.1 with
      | true =>
        by_cases h2 : m ≤ acc.length
        · rw [readM_full h0 h1 h2]; simp
        · rw [readM_one h0 h1 h2]
          have := readM_num ls m (k + 1) (acc ++ [(oneS l).1])
          simp at this ⊢; omega
      | false =>
        rw [readM_no h0 h1]
        have := readM_num ls m (k + 1) acc
        simp at this ⊢; omega
    · rw [readM_bad h0]; simp
theorem readB_num (b : List UInt8) : (readB b).2.1 ≤ b.length + 1 := by
  unfold readB
  split
  · simp
  · have h1 := readM_num (linesG [] b) 65536 0 []
    have h2 := linesG_length b []
    omega
theorem add_small {x y : Nat} (hx : x ≤ 100000) (hy : y ≤ 100000) : IntKind.i64.wrap ((x : Int) + (y : Int)) = (x : Int) + (y : Int) ∧ wrap64 ((x : Int) + (y : Int)) = (x : Int) + (y : Int) := ⟨IntWalk.i64_in _ (by omega), by unfold wrap64; omega⟩
theorem le_sums {x y z : Nat} (h : x + y ≤ z) : (x : Int) ≤ (z : Int) ∧ (x : Int) ≤ (x : Int) + (y : Int) ∧ x ≤ z := ⟨by omega, by omega, by omega⟩
theorem feeds_take {l : List UInt8} {k : Nat} {u : UInt8} (h : l[k]? = some u) : feeds (l.take (k + 1)) = feeds (l.take k) + (if u = 10 then 1 else 0) := by
  rw [take_snoc h, feeds_append]
  show _ + ((if u = 10 then 1 else 0) + 0) = _
  omega
theorem eds_out {S : Nat → Prop} {w w' : World} {B : Nat} {A : Option Addr} {l : List EdD} (h : Eds w B A l) (ho : Out S w w') (hn : ∀ a, A = some a → ¬ S a.block) (hB : B ≤ w.heap.size := by exact Nat.le_refl _) : Eds w' B A l := by
  refine ⟨fun hl => ?_, h.2⟩
  obtain ⟨a, e, hb, hc⟩ := h.1 hl
  exact ⟨a, e, hb, fun i v hv => (ho.cell (p := a.add i) (by rw [Me.block_add]; omega) (by rw [Me.block_add]; exact hn a e)).trans (hc i v hv)⟩
set_option maxRecDepth 100000 in
set_option maxHeartbeats 2000000 in
theorem edgeJoins_walk (A : Option Addr) (n c : Nat) (a : List UInt8) (ha : a.length = n) (hnc : n ≤ c) (hc : c ≤ 9223372036854775807) (B : Option Addr) (m d : Nat) (b : List UInt8) (hb : b.length = m) (hmd : m ≤ d) (hd : d ≤ 9223372036854775807) (w : World) (hra : Rd w w.heap.size A a) (hrb : Rd w w.heap.size B b) (hL : laidMetH Tryd.prog laidL w) :
    Calls Tryd.prog 7 #[.slice A n c, .slice B m d] w fun e w' => e = .returned (.bool true) ∧ Below w.heap.size w w' := by
  obtain ⟨i0, hi0, hz0, hz1, hz2⟩ := info_parts u8_info
  have HE := Lib.hid (laid_evs hL)
  have HA := Lib.hid ha
  have HB := Lib.hid hb
  have HRA := Lib.hid hra
  have HRB := Lib.hid hrb
  have HCD := Lib.hid (And.intro hc hd)
  clear hL ha hb hra hrb hc hd
  by_cases h : 2000 < n ∨ 2000 < m
  · have hq : (2000 : Int) < (n : Int) ∨ (¬ (2000 : Int) < (n : Int) ∧ (2000 : Int) < (m : Int)) := by omega
    clear h
    go_enter Tryd.func7, Tryd.ntmps7
    rcases hq with h1 | ⟨h1, h2⟩
    all_goals
      go_wp2_with fail
      refine (awake_any w HE.out).mono ?_
      rintro e w1 ⟨rfl, hb1⟩
      have HB1 := Lib.hid hb1
      clear hb1
      go_wp2
      go_ret
      exact ⟨rfl, HB1.out⟩
  · have h1 : ¬ (2000 : Int) < (n : Int) := by omega
    have h2 : ¬ (2000 : Int) < (m : Int) := by omega
    have hn2 : n ≤ 2000 := by omega
    have hm2 : m ≤ 2000 := by omega
    clear h
    obtain ⟨fr, hfr⟩ : ∃ fr, fr = a ++ [10] := ⟨_, rfl⟩
    have hfl : fr.length = n + 1 := by rw [hfr, List.length_append, HA.out]; rfl
    obtain ⟨⟨es, k, er⟩, hR1⟩ : ∃ r, readB fr = r := ⟨_, rfl⟩
    obtain ⟨⟨fs, j, fe⟩, hR2⟩ : ∃ r, readB b = r := ⟨_, rfl⟩
    have hR3 := read_joins (a := a) (b := b) (by rw [HA.out]; omega) (by rw [HB.out]; omega)
    rw [← hfr, hR1, hR2] at hR3
    simp only at hR3
    have hee : er ≠ 0 → es = [] := fun h => by have := readB_err (b := fr) (by rw [hR1]; exact h); rw [hR1] at this; exact this
    have HR1 := Lib.hid hR1
    have HR2 := Lib.hid hR2
    have HR3 := Lib.hid hR3
    have HFR := Lib.hid hfr
    have HFL := Lib.hid hfl
    have HEE := Lib.hid hee
    have hb0 : Below w.heap.size w (w.alloc (.cells #[] 5)) := (Below.refl _ w).alloc (Nat.le_refl _) _
    have HO0 := Lib.hid (own_empty w w.heap.size 5 (Nat.le_refl _))
    have HB0 := Lib.hid hb0
    have HRA0 := Lib.hid ((HRA.out.below hb0).more hb0.size)
    have hm64 : 0 + n ≤ 140737488355328 := by omega
    have hm65 : n + 1 ≤ 140737488355328 := by omega
    clear hR1 hR2 hR3 hfr hfl hee hb0
    go_enter Tryd.func7, Tryd.ntmps7
    go_wp2_with (at_builtin
                 go_loud (refine wpList_app rfl (.tmp 26) (.tmp 27) 32 rfl w.heap.size 5 i0 _ Tryd.underlying32 hi0 hz0 hz1 hz2 rfl (.slice (some ⟨w.heap.size, 0, none⟩) 0 0) 0 [] rfl HO0.out _ A n c a rfl HA.out HRA0.out hm64 HB0.out.size ?_)
                 intro v1 w1 hown1 hg1 hat1
                 refine Classical.byContradiction fun hcontra => ?_)
    have hb1 : Below w.heap.size w w1 := HB0.out.grown hg1 HB0.out.size (fun g e => (HO0.out.lt g e).1)
    rw [Nat.zero_add, List.nil_append] at hown1
    obtain ⟨A1, c1, hv1, -⟩ := own_slice' hown1
    subst hv1
    have HO1 := Lib.hid (hown1.alloc (.cells #[.int .u8 10] 5))
    have HB1 := Lib.hid hb1
    have hbase1 : w.heap.size ≤ (w1.alloc (.cells #[.int .u8 10] 5)).heap.size := by have := hb1.size; simp; omega
    clear hown1 hg1 hat1 hb1 HO0 HB0 HRA0
    apply hcontra
    clear hcontra
    go_wp2_with (at_builtin
                 go_loud (refine wpList_app rfl (.tmp 28) (.tmp 29) 32 rfl w.heap.size 5 i0 _ Tryd.underlying32 hi0 hz0 hz1 hz2 rfl (.slice A1 n c1) n a rfl HO1.out (w1.heap.size + 1) (some ⟨w1.heap.size, 0, none⟩) 1 1 [10] rfl rfl (Rd.lit w1 #[.int .u8 10] _ [10] rfl) hm65 hbase1 ?_)
                 intro v2 w2 hown2 hg2 hat2
                 refine Classical.byContradiction fun hcontra => ?_)
    have hb2 : Below w.heap.size w w2 := (HB1.out.alloc HB1.out.size _).grown hg2 (HB1.out.alloc HB1.out.size _).size (fun g e => (HO1.out.lt g e).1)
    obtain ⟨A2, c2, hv2, hc2⟩ := own_slice' hown2
    subst hv2
    rw [← HFR.out] at hown2
    have hcc2 := (own_bounds hown2).2
    have HO2 := Lib.hid hown2
    have HB2 := Lib.hid hb2
    have HRF := Lib.hid (Rd.of_own hown2)
    clear hown2 hg2 hat2 hb2 HO1 HB1 hbase1
    apply hcontra
    clear hcontra
    go_wp2_with fail
    refine (read_any2 A2 (n + 1) c2 fr HFL.out hc2 hcc2 w2 HRF.out (HE.out.below HB2.out)).mono ?_
    rw [HR1.out]
    rintro e w3 ⟨A3, c3, rfl, hc3, he3, hb3, hnw3, hnn3⟩
    have hlt2 : ∀ g, (Value.slice A2 (n + 1) c2).ownBlock = some g → g < w2.heap.size := fun g e => (HO2.out.lt g e).2
    have HLT := Lib.hid hlt2
    have HNW3 := Lib.hid hnw3
    have HB3 := Lib.hid (HB2.out.trans (hb3.mono HB2.out.size))
    have HO3 := Lib.hid (own_below' HO2.out hb3)
    have HE3 := Lib.hid he3
    have HRB3 := Lib.hid ((HRB.out.below HB3.out).more HB3.out.size)
    have HS23 := Lib.hid hb3.size
    clear hb3 he3 HO2 HRF hnw3 hnn3 hlt2
    go_wp2_with fail
    refine (read_any2 B m d b HB.out hmd HCD.out.2 w3 HRB3.out (HE.out.below HB3.out)).mono ?_
    rw [HR2.out]
    rintro e w4 ⟨A4, c4, rfl, hc4, he4, hb4, hnw4, hnn4⟩
    have HB4 := Lib.hid (HB3.out.trans (hb4.mono HB3.out.size))
    have HO4 := Lib.hid (own_below' HO3.out hb4)
    have HE43 := Lib.hid ((HE3.out.below hb4).more hb4.size)
    have HE4 := Lib.hid he4
    have HRB4 := Lib.hid ((HRB.out.below HB4.out).more HB4.out.size)
    have hm66 : n + 1 + m ≤ 140737488355328 := by omega
    have HNW4 := Lib.hid hnw4
    have HS34 := Lib.hid hb4.size
    clear hb4 he4 HO3 HE3 HRB3 hnw4 hnn4
    go_wp2_with (at_builtin
                 go_loud (refine wpList_app_keep rfl (.tmp 44) (.tmp 45) 32 rfl w.heap.size 5 i0 _ Tryd.underlying32 hi0 hz0 hz1 hz2 rfl A2 (n + 1) c2 fr rfl HO4.out _ B m d b rfl HB.out HRB4.out hm66 HB4.out.size ?_)
                 intro v5 w5 hown5 hg5 hrd5
                 refine Classical.byContradiction fun hcontra => ?_)
    have ho5 : Out (fun g => (Value.slice A2 (n + 1) c2).ownBlock = some g) w4 w5 := Out.of_grown hg5 fun g e _ => e
    have he3 : Eds w5 w5.heap.size A3 es := (eds_out HE43.out ho5 (fun a0 e g => by have := HLT.out _ g; have := HNW3.out a0 e; omega)).more ho5.size
    have he4 : Eds w5 w5.heap.size A4 fs := (eds_out HE4.out ho5 (fun a0 e g => by have := HLT.out _ g; have := HNW4.out a0 e; have := HS23.out; omega)).more ho5.size
    have hb5 : Below w.heap.size w w5 := HB4.out.grown hg5 HB4.out.size (fun g e => (HO4.out.lt g e).1)
    obtain ⟨A5, c5, hv5, hc5⟩ := own_slice' hown5
    subst hv5
    have hcc5 := (own_bounds hown5).2
    have HR5 := Lib.hid (Rd.of_own hown5)
    have HF5 := Lib.hid hrd5
    have HE3 := Lib.hid he3
    have HE4' := Lib.hid he4
    have HB5 := Lib.hid hb5
    have hl5 : (fr ++ b).length = n + 1 + m := by rw [List.length_append, HFL.out, HB.out]
    have HL5 := Lib.hid hl5
    clear ho5 he3 he4 hb5 hown5 hg5 hrd5 hl5 HO4 HE43 HE4 HRB4
    apply hcontra
    clear hcontra
    go_wp2_with fail
    refine (read_any2 A5 (n + 1 + m) c5 (fr ++ b) HL5.out hc5 hcc5 w5 HR5.out (HE.out.below HB5.out)).mono ?_
    rw [HR3.out]
    by_cases her : er = 0
    · subst her
      rw [if_neg (by simp)]
      obtain ⟨R, hR⟩ : ∃ R, R = (if fe ≠ 0 then (([] : List EdD), feeds fr + j, fe) else (es ++ fs, 0, 0)) := ⟨_, rfl⟩
      rw [← hR]
      have HR := Lib.hid hR
      obtain ⟨R1, R2, R3⟩ := R
      rintro e w6 ⟨A6, c6, rfl, hc6, he6, hb6, hnw6, hnn6⟩
      have HB6 := Lib.hid (HB5.out.trans (hb6.mono HB5.out.size))
      have HF6 := Lib.hid ((HF5.out.below hb6).more hb6.size)
      have HE36 := Lib.hid ((HE3.out.below hb6).more hb6.size)
      have HE46 := Lib.hid ((HE4'.out.below hb6).more hb6.size)
      have HE6 := Lib.hid he6
      have HN6 := Lib.hid (And.intro hc6 hnn6)
      have HZ := Lib.hid (show (0 : Nat) = feeds (fr.take 0) from rfl)
      clear hR hb6 he6 hnw6 hnn6 hc6 HF5 HE3 HE4' HR5
      simp only
      obtain ⟨r1, hr1⟩ : ∃ r1, r1 = R1.length := ⟨_, rfl⟩
      simp only at *
      rw [← hr1]
      have HRL := Lib.hid hr1
      clear hr1
      go_wp2
      go_loopw [15, 16] (fun v i wr => ∃ k f : Nat, v = .int .i64 (f : Int) ∧ i = .int .i64 (k : Int) ∧ k ≤ n + 1 ∧ f ≤ k ∧ wr = w6 ∧ Hid (f = feeds (fr.take k))) (fun _ i _ => (n + 1 - intOf i).toNat)
      case atStart => exact ⟨0, 0, rfl, rfl, Nat.zero_le _, Nat.zero_le _, rfl, HZ⟩
      case round =>
        clear HZ
        obtain ⟨k, f, rfl, rfl, hk, hfk, rfl, HZ⟩ := hrel
        by_cases hkn : k < n + 1
        · obtain ⟨a0, u, rfl, -, hu, hcu⟩ := HF6.out.at (k := k) (by rw [HFL.out]; exact hkn)
          have hft := feeds_take hu
          rw [← HZ.out] at hft
          have kk1 : (k : Int) < (n : Int) + 1 := by omega
          by_cases hu10 : u = 10
          · subst hu10
            rw [if_pos rfl] at hft
            have HZ2 := Lib.hid hft.symm
            clear hu hft
            go_wp2
            go_roundw
            case rel => exact ⟨k + 1, f + 1, by first | rfl | (congr 1), by first | rfl | (congr 1), by omega, by omega, by first | rfl | trivial, HZ2⟩
            case measure => simp [intOf]; omega
          · rw [if_neg hu10] at hft
            have HZ2 := Lib.hid hft.symm
            have q1 : ((u.toNat : Int) == 10) = false := beq_eq_false_iff_ne.2 (nat_ne (c := 10) (by omega) hu10)
            clear hu hft
            go_wp2
            go_roundw
            case rel => exact ⟨k + 1, f, by first | rfl | (congr 1), by first | rfl | (congr 1), by omega, by omega, by first | rfl | trivial, HZ2⟩
            case measure => simp [intOf]; omega
        · have kk1 : ¬ (k : Int) < (n : Int) + 1 := by omega
          have hz := HZ.out
          rw [List.take_of_length_le (by rw [HFL.out]; omega)] at hz
          have HZ2 := Lib.hid hz
          clear hz HZ
          by_cases hfe : fe = 0
          · subst hfe
            have hR := HR.out
            rw [if_neg (by simp)] at hR
            simp only [Prod.mk.injEq] at hR
            obtain ⟨e1, rfl, rfl⟩ := hR
            obtain ⟨q1, hq1⟩ : ∃ q, q = es.length := ⟨_, rfl⟩
            obtain ⟨q2, hq2⟩ : ∃ q, q = fs.length := ⟨_, rfl⟩
            have hr12 : r1 = q1 + q2 := by rw [HRL.out, e1, List.length_append, hq1, hq2]
            have hq1b : q1 ≤ 2002 := by
              have := readB_len fr
              rw [HR1.out] at this
              have h3 := HFL.out
              simp only at this
              omega
            have hq2b : q2 ≤ 2002 := by
              have := readB_len b
              rw [HR2.out] at this
              have h3 := HB.out
              simp only at this
              omega
            have hcc6 : q1 + q2 ≤ c6 := by have := HN6.out.1; rw [e1, List.length_append, ← hq1, ← hq2] at this; exact this
            have hE6 := HE6.out
            rw [e1] at hE6
            have ht : (es ++ fs).take q1 = es := by rw [hq1]; exact List.take_left
            have hd : (es ++ fs).drop q1 = fs := by rw [hq1]; exact List.drop_left
            have ht6 := hE6.take (k := q1)
            have hd6 := hE6.drop (k := q1) (c := c6) (by rw [List.length_append, ← hq1, ← hq2]; exact hcc6)
            rw [ht] at ht6
            rw [hd] at hd6
            have HT6 := Lib.hid ht6
            have HD6 := Lib.hid hd6
            have HQ1 := Lib.hid hq1
            have HQ2 := Lib.hid hq2
            have hb1 : q1 ≤ 4294967296 := Nat.le_trans hq1b (by decide)
            have hb2 : q2 ≤ 4294967296 := Nat.le_trans hq2b (by decide)
            rw [hr12, ← hq1, ← hq2]
            obtain ⟨ew, ew2⟩ := add_small (Nat.le_trans hq1b (by decide)) (Nat.le_trans hq2b (by decide))
            obtain ⟨i1, i2, i3⟩ := le_sums hcc6
            clear e1 hr12 hE6 ht hd ht6 hd6 hq1 hq2 hq1b hq2b
            go_wp2_with fail
            refine (esame_any A6 A3 q1 c6 c3 es wr HQ1.out.symm hb1 HT6.out HE36.out).mono ?_
            rintro e w7 ⟨rfl, hb7⟩
            have HB7 := Lib.hid (HB6.out.trans (hb7.mono HB6.out.size))
            have HD7 := Lib.hid ((HD6.out.below hb7).more hb7.size)
            have HE47 := Lib.hid ((HE46.out.below hb7).more hb7.size)
            clear hb7 ew ew2
            by_cases hcq : c6 = q1
            · rw [if_pos hcq] at HD7
              have hq20 : q2 = 0 := by omega
              subst hq20
              subst hcq
              go_wp2_with fail
              refine (esame_any A6 A4 0 _ c4 fs w7 HQ2.out.symm hb2 HD7.out HE47.out).mono ?_
              rintro e w8 ⟨rfl, hb8⟩
              have HB8 := Lib.hid (HB7.out.trans (hb8.mono HB7.out.size))
              clear hb8
              go_wp2_with fail
              refine (awake_any w8 (HE.out.below HB8.out)).mono ?_
              rintro e w9 ⟨rfl, hb9⟩
              have HB9 := Lib.hid (HB8.out.trans (hb9.mono HB8.out.size))
              clear hb9
              go_wp2
              go_ret
              exact ⟨rfl, HB9.out⟩
            · rw [if_neg hcq] at HD7
              go_wp2_with fail
              refine (esame_any (A6.map fun x => x.add (q1 * 3)) A4 q2 (c6 - q1) c4 fs w7 HQ2.out.symm hb2 HD7.out HE47.out).mono ?_
              rintro e w8 ⟨rfl, hb8⟩
              have HB8 := Lib.hid (HB7.out.trans (hb8.mono HB7.out.size))
              clear hb8
              go_wp2_with fail
              refine (awake_any w8 (HE.out.below HB8.out)).mono ?_
              rintro e w9 ⟨rfl, hb9⟩
              have HB9 := Lib.hid (HB8.out.trans (hb9.mono HB8.out.size))
              clear hb9
              go_wp2
              go_ret
              exact ⟨rfl, HB9.out⟩
          · have q1 : (fe == 0) = false := beq_eq_false_iff_ne.2 hfe
            have hR := HR.out
            rw [if_pos hfe] at hR
            simp only [Prod.mk.injEq] at hR
            obtain ⟨e1, e2, e3⟩ := hR
            subst e1
            have q2 : r1 = 0 := HRL.out
            subst q2
            have q3 : R2 = f + j := by rw [e2, HZ2.out]
            clear e2 HR HZ2
            subst e3 q3
            have hjb : j ≤ 2002 := by
              have := readB_num b
              rw [HR2.out] at this
              have h3 := HB.out
              simp only at this
              omega
            obtain ⟨ew, ew2⟩ := add_small (x := f) (y := j) (by omega) (Nat.le_trans hjb (by decide))
            go_wp2_with fail
            refine (awake_any wr (HE.out.below HB6.out)).mono ?_
            rintro e w7 ⟨rfl, hb7⟩
            have HB7 := Lib.hid (HB6.out.trans (hb7.mono HB6.out.size))
            clear hb7
            go_wp2
            go_ret
            exact ⟨rfl, HB7.out⟩
    · have he0 := HEE.out her
      subst he0
      rw [if_pos her]
      have q1 : (er == 0) = false := beq_eq_false_iff_ne.2 her
      rintro e w6 ⟨A6, c6, rfl, hc6, he6, hb6, hnw6, hnn6⟩
      have HB6 := Lib.hid (HB5.out.trans (hb6.mono HB5.out.size))
      clear hb6 he6 hnw6 hnn6 hc6
      simp only [List.length_nil]
      go_wp2_with fail
      refine (awake_any w6 (HE.out.below HB6.out)).mono ?_
      rintro e w7 ⟨rfl, hb7⟩
      have HB7 := Lib.hid (HB6.out.trans (hb7.mono HB6.out.size))
      clear hb7
      go_wp2
      go_ret
      exact ⟨rfl, HB7.out⟩

set_option maxRecDepth 100000 in
theorem edgeJoins_lifted (os : Os) (started : os.Started) (H : Type) (enc : TypeId × Value → H) :
    ReturnsInHanded {} Tryd.checked os 7 .any (fun w args => (Rows.edgeJoinsSpec.pre enc Tryd.prog Tryd.f7 Rows.edgeJoinsRow.domain false w args ∧ laidMetH Tryd.prog laidL w) ∧ sizedMet enc Tryd.prog Tryd.f7 (OpenSpec.ofChange Rows.edgeJoinsSpec) false w args)
      (Rows.edgeJoinsSpec.post enc Tryd.prog Tryd.f7 false true false false) := by
  refine returnsInHanded_of_change_and (C := Tryd.checked) (X := fun w _ => laidMetH Tryd.prog laidL w) (fun _ _ _ hh h => h.of_heap hh) own started (by kernel_rfl) Tryd.func7
    (ChangeSpec.witness_shaped (enc := enc) (C := Tryd.checked) (os := os) (X := fun w _ => laidMetH Tryd.prog laidL w) false (World.laidAll Tryd.prog os laidL) #[.slice none 0 0, .slice none 0 0] 8 (World.laidAll_os _ _ _)
      (laid_shaped os) (by kernel_rfl) (by kernel_rfl) (by kernel_rfl) (laid_world os _)) ?_
  intro W base args ds gs before hval0 hW hc _ hL _
  have hval : ∀ (j : Nat) t v, Tryd.f7.params[j]? = some t → args[j]? = some v → Value.okWide Tryd.prog W .any base t v := hval0
  have hW' := hW
  obtain ⟨p, q, hA0, hV, rfl, _, _⟩ := hW
  have hA : DataW.TrodAll enc Tryd.prog W 0 (fun _ => true) true Tryd.f7.params.toList args.toList ds p := hA0
  rw [Tryd.params7] at hA hval
  obtain ⟨v0, v1, d0, d1, p0, p1, rfl, rfl, rfl, h0, h1⟩ := trodAll_two hA
  obtain ⟨A0, n0, c0, l0, rfl, hl0, hn0, hc0, hr0⟩ := open_bytes Tryd.underlying32 Tryd.underlying5 cells_u8 (hval 0 32 v0 rfl rfl) h0
  obtain ⟨A1, n1, c1, l1, rfl, hl1, hn1, hc1, hr1⟩ := open_bytes Tryd.underlying32 Tryd.underlying5 cells_u8 (hval 1 32 v1 rfl rfl) h1
  refine (edgeJoins_walk A0 n0 c0 l0 hl0 hn0 hc0 A1 n1 c1 l1 hl1 hn1 hc1 W hr0 hr1 hL).mono fun e W' ⟨he, hb⟩ => ?_
  subst he
  exact ⟨_, rfl, Lw.post_true laidOut (by kernel_rfl) rfl rfl rfl rfl (by kernel_rfl) Tryd.underlying4 hW' hb⟩
set_option maxRecDepth 100000 in
theorem edgeJoins_row : Rows.EdgeJoinsSaid :=
  OpenClaim.holds_of_wide 7 Tryd.f7 rfl rfl rfl rfl rfl rfl rfl ⟨rfl, rfl, rfl, rfl, rfl⟩ rfl rfl rfl rfl rfl (by kernel_rfl) Tryd.func7 (by kernel_rfl)
    (of_decide_eq_true (by kernel_rfl)) (by unfold Func.isWrapper; first | (rw [if_pos (by decide +kernel)]; kernel_rfl) | (rw [if_neg (by decide +kernel)]; exact ⟨rfl, rfl⟩))
    (fun os started H enc _ => edgeJoins_lifted os started H enc)
set_option maxRecDepth 100000 in
theorem edgeJoins_holds : Rows.EdgeJoinsCardSaid :=
  Claim7.holds_tied_plain_at .later [] [.data, .data, .data, .sentinel, .sentinel, .data, .data] true (true, "183fa1ae3bdabf8da4eedaa81e1dc8a6204b53098dcb5e3e5ab955ffde1bbcfc") true edgeJoins_row (fun _ h => by cases h) (by kernel_rfl) (fun _ h => by cases h) edgeJoins_row_tie rfl ⟨rfl, rfl⟩ (by kernel_rfl) rfl
    (fun f fn hf hfn => by
      obtain rfl : f = 7 := Option.some.inj ((show Tryd.prog.funcNamed "palmer/palmerlaw12.EdgeJoins" = some 7 by kernel_rfl).symm.trans hf) |>.symm
      obtain rfl : fn = Tryd.f7 := (Option.some.inj (Tryd.func7.symm.trans hfn)).symm
      exact ⟨by kernel_rfl, fun j t ht => by
        rw [Tryd.params7] at ht
        have hm : t ∈ [32, 32] := by simpa using Array.mem_of_getElem? ht
        have hall : ([32, 32].all fun u => !Tryd.prog.wantsStandIn u) = true := by kernel_rfl
        exact (show Tryd.prog.wantsStandIn t = false by simpa using List.all_eq_true.1 hall t hm)⟩)
    (by kernel_rfl)
#print axioms edgeJoins_holds
end Go.Proofs.YtbedepnmgnlijaaDoor
