/- TextJoins: lines without line feeds, put together with one behind each, are the text's lines. -/
import Derived.Test.YtdkgiflkakaebaaDoorTxV
import Derived.Test.YtdkgiflkakaebaaDoorTxO
import Derived.Lib.ConvBytes
namespace Go.Proofs.YtdkgiflkakaebaaDoor
open Go.RowKit Me Tx Go.Shelf Go.Lib Go.ChangeShapes

theorem rd_bytes (w : World) (t : TypeId) (s : ByteArray) (y : List UInt8) (hy : s.data.toList = y) : Rd (Lib.bytesWorld w t s) (w.heap.size + 1) (some ⟨w.heap.size, 0, none⟩) y := fun _ => by
  refine ⟨_, rfl, Nat.lt_succ_self _, fun i u hu => ?_⟩
  have hi : i < s.size := by rw [← len_eq, hy]; exact (List.getElem?_eq_some_iff.1 hu).1
  have := Lib.bytesWorld_cell w t s i hi
  rw [hy] at this
  have e : y.getD i 0 = u := by rw [List.getD_eq_getElem?_getD, hu]; rfl
  rw [e] at this
  have e2 : (⟨w.heap.size, 0, none⟩ : Addr).add i = ⟨w.heap.size, i, none⟩ := by
    unfold Addr.add
    split
    · rename_i h; rw [h]
    · simp
  rw [e2]
  exact this
theorem join_len : ∀ (ls : List (List UInt8)), (∀ x ∈ ls, x.length ≤ 100) → (joinL ls).length ≤ 101 * ls.length
  | [], _ => by simp [joinL]
  | x :: ls, h => by
    have h1 := h x (by simp)
    have h2 := join_len ls fun y hy => h y (by simp [hy])
    rw [joinL, List.length_append, List.length_cons, List.length_cons]
    omega
theorem join_snoc (a : List (List UInt8)) (y : List UInt8) : joinL (a ++ [y]) = (joinL a ++ y) ++ [10] := by rw [joinL_append]; simp [joinL]
/-- What stands while the lines are put together. -/
structure JoinS (W0 wr : World) (bv : Value) (l : List UInt8) : Prop where
  o : wr.ownsRow W0.heap.size 5 1 bv l.length (cellsOf l)
  b : Below W0.heap.size W0 wr
theorem act_gen {F : Fence} {n : Nat} {P : Program} {c : Code} {Q : Exit → Act → World → Prop} {a : Act} {w : World} (h : ∀ T, T = a → c.wpIn F n P Q T w) : c.wpIn F n P Q a w := h a rfl
attribute [local go_sem] Oper.semAt_some
set_option maxRecDepth 100000 in
set_option maxHeartbeats 2000000 in
theorem textJoins_walk (A : Option Addr) (n c : Nat) (ls : List (List UInt8)) (hl : ls.length = n) (hnc : n ≤ c) (hc : c ≤ 9223372036854775807) (w : World) (hr : Cs w w.heap.size A (ls.map sv)) (hL : laidMetH Tryd.prog laidL w) :
    Calls Tryd.prog 8 #[.slice A n c] w fun e w' => e = .returned (.bool true) ∧ Below w.heap.size w w' := by
  refine (callsIn_wide (n := 4)).1 ?_
  obtain ⟨i0, hi0, hz0, hz1, hz2⟩ := info_parts u8_info
  have HE := Lib.hid (laid_err hL)
  have HL := Lib.hid hl
  have HR := Lib.hid hr
  clear hL hl hr
  obtain ⟨H, hH⟩ : ∃ H, H = w.heap.size := ⟨_, rfl⟩
  obtain ⟨W0, hW0⟩ : ∃ W0, (w.alloc (.cells #[.slice A n c] 24)).alloc (.cells #[.bool false] 4) = W0 := ⟨_, rfl⟩
  have b9 : Blk W0 H [.slice A n c] := by rw [← hW0, hH]; exact (Blk.new w [.slice A n c] _).alloc _
  have b0 : Blk W0 (H + 1) [.bool false] := by rw [← hW0, hH]; exact Blk.new' (w.alloc _) [.bool false] _ (by simp)
  have hb0 : Below w.heap.size w W0 := by rw [← hW0]; exact ((Below.refl _ w).alloc (Nat.le_refl _) _).alloc (by simp) _
  have hs0 : W0.heap.size = H + 2 := by rw [← hW0, hH]; simp
  have HH := Lib.hid hH
  have B0 := Lib.hid (And.intro b0 hb0)
  have B9 := Lib.hid b9
  have HW0 := Lib.hid hW0
  clear hH b0 hb0 b9 hW0
  have y9 : W0.cell? ⟨w.heap.size, 0, none⟩ = some (.slice A n c) := by have := B9.out.cell (i := 0) rfl; rwa [HH.out] at this
  refine callsIn_of_wp_marks Tryd.func8 rfl trivial ?_ rfl
  simp only [Tryd.ntmps8, List.size_toArray, List.length_cons, List.length_nil, Nat.reduceAdd, Nat.reduceSub, Array.replicate_succ, Array.replicate_zero, List.push_toArray, List.append_toArray, List.nil_append, List.cons_append]
  refine wpIn_wide.2 ?_
  by_cases h : 100 < n
  · have h1 : (100 : Int) < (n : Int) := by omega
    go_wp2_with fail
    rw [HW0.out]
    refine (awake_any W0 (HE.out.below B0.out.2)).mono ?_
    rintro e w1 ⟨rfl, hb1⟩
    have b1 := B0.out.1.past hb1
    have x0 : w1.cell? ⟨w.heap.size + 1, 0, none⟩ = some (.bool false) := by have := b1.cell (i := 0) rfl; rwa [HH.out] at this
    have x1 : w1.frozen? ⟨w.heap.size + 1, 0, none⟩ = false := by have := b1.frozen 0; rwa [HH.out] at this
    have HB := Lib.hid (And.intro hb1 b1)
    clear hb1 b1
    go_wp2
    obtain ⟨hb1, b1⟩ := HB.out
    have r0 := (b1.set 0 (.bool true)).cell (i := 0) rfl
    rw [HH.out] at r0
    refine ⟨.bool true, ?_, rfl, ?_⟩
    · simp [results, Tryd.results8, go_sem, r0]
    · exact (B0.out.2.trans (hb1.mono B0.out.2.size)).setCell (p := ⟨w.heap.size + 1, 0, none⟩) (by show _ ≤ _ + 1; omega) _
  · have h1 : ¬ (100 : Int) < (n : Int) := by omega
    have HJ0 := Lib.hid (show JoinS W0 (W0.alloc (.cells #[] 5)) (.slice (some ⟨W0.heap.size, 0, none⟩) 0 0) (joinL (ls.take 0)) from ⟨own_empty W0 _ _ (Nat.le_refl _), (Below.refl _ W0).alloc (Nat.le_refl _) _⟩)
    have HP0 := Lib.hid (show ∀ x ∈ ls.take 0, Plain x ∧ x.length ≤ 100 from fun x hx => by simp at hx)
    go_wp2
    rw [HW0.out, ← HH.out, show H + 1 + 1 = W0.heap.size from hs0.symm]
    have HS0 := Lib.hid hs0
    clear hs0 y9
    go_loopw [3, 4] (fun bv iv wr => ∃ k : Nat, iv = .int .i64 (k : Int) ∧ k ≤ n ∧ Hid (∀ x ∈ ls.take k, Plain x ∧ x.length ≤ 100) ∧ Hid (JoinS W0 wr bv (joinL (ls.take k)))) (fun _ iv _ => (n - intOf iv).toNat)
    case atStart => exact ⟨0, rfl, Nat.zero_le _, HP0, HJ0⟩
    case round =>
      clear HP0 HJ0
      obtain ⟨k, rfl, hk, HP, HJ⟩ := hrel
      have hbw : Below w.heap.size w wr := B0.out.2.trans (HJ.out.b.mono B0.out.2.size)
      have y9 : wr.cell? ⟨H, 0, none⟩ = some (.slice A n c) := (B9.out.past HJ.out.b).cell (i := 0) rfl
      by_cases hkn : k < n
      · obtain ⟨y, hy⟩ : ∃ y, ls[k]? = some y := ⟨_, List.getElem?_eq_getElem (by rw [HL.out]; exact hkn)⟩
        obtain ⟨a, rfl, -, qq⟩ := ((HR.out.below hbw).more hbw.size) (by rw [List.length_map, HL.out]; omega)
        obtain ⟨s, hs⟩ : ∃ s : ByteArray, s = ⟨y.toArray⟩ := ⟨_, rfl⟩
        have z1 : wr.cell? (a.add k) = some (.string s) := by rw [hs]; exact qq k _ (by rw [List.getElem?_map, hy]; rfl)
        obtain ⟨q, hq⟩ : ∃ q, s.size = q := ⟨_, rfl⟩
        have hyl : y.length = q := by rw [← hq, hs]; rfl
        have hsy : s.data.toList = y := by rw [hs]
        have HY := Lib.hid (And.intro hy (And.intro hyl hsy))
        have HI0 := Lib.hid (show ∀ u ∈ y.take 0, u ≠ (10 : UInt8) from fun u hu => by simp at hu)
        clear qq hy hs hyl hsy
        by_cases hq100 : 100 < q
        · have q1 : (100 : Int) < (q : Int) := by omega
          go_wp2_with fail
          refine (awake_any wr (HE.out.below hbw)).mono ?_
          rintro e w1 ⟨rfl, hb1⟩
          have b1 := (B0.out.1.past HJ.out.b).past hb1
          have x0 : w1.cell? ⟨H + 1, 0, none⟩ = some (.bool false) := b1.cell (i := 0) rfl
          have x1 : w1.frozen? ⟨H + 1, 0, none⟩ = false := b1.frozen 0
          have HB := Lib.hid (And.intro hb1 b1)
          clear hb1 b1
          go_wp2
          obtain ⟨hb1, b1⟩ := HB.out
          have r0 := (b1.set 0 (.bool true)).cell (i := 0) rfl
          refine ⟨.bool true, ?_, rfl, ?_⟩
          · simp [results, Tryd.results8, go_sem, r0]
          · exact (hbw.trans (hb1.mono hbw.size)).setCell (p := ⟨H + 1, 0, none⟩) (by have := HH.out; show _ ≤ H + 1; omega) _
        · have q1 : ¬ (100 : Int) < (q : Int) := by omega
          go_wp2
          go_loopw [5] (fun jv wx => ∃ j : Nat, jv = .int .i64 (j : Int) ∧ j ≤ q ∧ wx = wr ∧ Hid (∀ u ∈ y.take j, u ≠ (10 : UInt8))) (fun jv _ => (q - intOf jv).toNat)
          case atStart => exact ⟨0, rfl, Nat.zero_le _, rfl, HI0⟩
          case round =>
            clear HI0
            obtain ⟨j, rfl, hj, rfl, HI⟩ := hrel
            by_cases hjq : j < q
            · have hu := Tx.get_at y j (by rw [HY.out.2.1]; exact hjq)
              obtain ⟨u, hg⟩ : ∃ u, y.getD j 0 = u := ⟨_, rfl⟩
              rw [hg] at hu
              have hix := str_at (s := s) (k := j) (u := u) (by rw [HY.out.2.2]; exact hu)
              by_cases hu10 : u = 10
              · subst hu10
                clear hu hg
                go_wp2_with fail
                refine (awake_any wr (HE.out.below hbw)).mono ?_
                rintro e w1 ⟨rfl, hb1⟩
                have b1 := (B0.out.1.past HJ.out.b).past hb1
                have x0 : w1.cell? ⟨H + 1, 0, none⟩ = some (.bool false) := b1.cell (i := 0) rfl
                have x1 : w1.frozen? ⟨H + 1, 0, none⟩ = false := b1.frozen 0
                have HB := Lib.hid (And.intro hb1 b1)
                clear hb1 b1
                go_wp2
                obtain ⟨hb1, b1⟩ := HB.out
                have r0 := (b1.set 0 (.bool true)).cell (i := 0) rfl
                refine ⟨.bool true, ?_, rfl, ?_⟩
                · simp [results, Tryd.results8, go_sem, r0]
                · exact (hbw.trans (hb1.mono hbw.size)).setCell (p := ⟨H + 1, 0, none⟩) (by have := HH.out; show _ ≤ H + 1; omega) _
              · have HI2 := Lib.hid (show ∀ v ∈ y.take (j + 1), v ≠ (10 : UInt8) from fun v hv => by
                  rw [take_snoc hu] at hv
                  rcases List.mem_append.1 hv with h | h
                  · exact HI.out v h
                  · simp at h; rw [h]; exact hu10)
                have h10 : ((u.toNat : Int) == 10) = false := beq_eq_false_iff_ne.2 (nat_ne (c := 10) (by omega) hu10)
                clear hu hg
                go_wp2
                go_roundw
                case rel => exact ⟨j + 1, by first | rfl | (congr 1), by omega, by first | rfl | trivial, HI2⟩
                case measure => simp [intOf]; omega
            · have hjj : j = q := by omega
              obtain ⟨A2, c2, hbv⟩ := own_slice HJ.out.o
              subst hbv
              obtain ⟨l, hl⟩ : ∃ l, l = joinL (ls.take k) := ⟨_, rfl⟩
              have hl100 : l.length ≤ 10100 := by
                have := join_len (ls.take k) (fun x hx => (HP.out x hx).2)
                rw [← hl, List.length_take] at this
                omega
              have HJ2 := HJ
              rw [← hl] at HJ2
              try rw [← hl]
              have e1 := Lib.run_convert_string_bytes (P := Tryd.prog) wr 9 22 5 s (u := .string) Tryd.underlying9 Tryd.underlying22 Tryd.underlying5
              have hb8 := Lib.bytesWorld_below wr 5 s
              have hr8 := rd_bytes wr 5 s y HY.out.2.2
              obtain ⟨cb, hcb⟩ : ∃ cb, grownCap wr s.size 0 5 = cb := ⟨_, rfl⟩
              obtain ⟨Wb, hWb⟩ : ∃ Wb, Lib.bytesWorld wr 5 s = Wb := ⟨_, rfl⟩
              rw [hWb] at e1 hb8 hr8
              rw [hcb, hq] at e1
              have HL2 := Lib.hid hl
              have HB8 := Lib.hid (And.intro hb8 hr8)
              clear hl hb8 hr8 hWb hcb
              have hbase : W0.heap.size ≤ Wb.heap.size := Nat.le_trans HJ.out.b.size HB8.out.1.size
              have hlq : l.length + q ≤ 140737488355328 := by omega
              have hlq1 : l.length + q + 1 ≤ 140737488355328 := by omega
              go_wp2_with (first
                | (at_builtin
                   refine wpList_app rfl (.tmp 45) (.tmp 50) 22 rfl W0.heap.size 5 i0 _ Tryd.underlying22 hi0 hz0 hz1 hz2 rfl (.slice A2 l.length c2) l.length l rfl (own_below' HJ2.out.o HB8.out.1) (wr.heap.size + 1) (some ⟨wr.heap.size, 0, none⟩) q cb y rfl HY.out.2.1 HB8.out.2 hlq hbase ?_
                   intro v3 w3 hown3 hg3 hat3
                   have HO3 := Lib.hid hown3
                   have HB3 := Lib.hid (below_app (HJ2.out.b.trans (HB8.out.1.mono HJ2.out.b.size)) (own_below' HJ2.out.o HB8.out.1) (Nat.le_refl _) hbase hg3)
                   have hbase3 : W0.heap.size ≤ (w3.alloc (.cells #[.int .u8 10] 5)).heap.size := by have := HB3.out.size; simp; omega
                   clear hown3 hg3 hat3)
                | (at_builtin
                   refine wpList_app rfl (.tmp 52) (.tmp 53) 22 rfl W0.heap.size 5 i0 _ Tryd.underlying22 hi0 hz0 hz1 hz2 rfl v3 (l.length + q) (l ++ y) rfl (HO3.out.alloc _) (w3.heap.size + 1) (some ⟨w3.heap.size, 0, none⟩) 1 1 [10] rfl rfl (Rd.lit w3 #[.int .u8 10] _ [10] rfl) hlq1 hbase3 ?_
                   intro v4 w4 hown4 hg4 hat4))
              have hjn : joinL (ls.take (k + 1)) = (l ++ y) ++ [10] := by
                rw [HL2.out, ← join_snoc]
                congr 1
                rw [List.take_add_one, HY.out.1]; rfl
              have HJ4 := Lib.hid (show JoinS W0 w4 v4 (joinL (ls.take (k + 1))) from by
                rw [hjn]
                refine ⟨?_, below_app (HB3.out.alloc HB3.out.size _) (HO3.out.alloc _) (Nat.le_refl _) hbase3 hg4⟩
                rw [List.length_append, List.length_append, HY.out.2.1]
                exact hown4)
              have HP4 := Lib.hid (show ∀ x ∈ ls.take (k + 1), Plain x ∧ x.length ≤ 100 from fun x hx => by
                rw [List.take_add_one, HY.out.1] at hx
                rcases List.mem_append.1 hx with h | h
                · exact HP.out x h
                · simp at h
                  subst h
                  have hh := HI.out
                  rw [List.take_of_length_le (by rw [HY.out.2.1]; omega)] at hh
                  exact ⟨hh, by rw [HY.out.2.1]; omega⟩)
              clear hown4 hg4 hat4 hjn
              go_roundw
              case rel => exact ⟨k + 1, by first | rfl | (congr 1), by omega, HP4, HJ4⟩
              case measure => simp [intOf]; omega
      · have hkk : k = n := by omega
        subst hkk
        obtain ⟨A2, c2, hbv⟩ := own_slice HJ.out.o
        subst hbv
        have hall : ls.take k = ls := List.take_of_length_le (by rw [HL.out]; omega)
        have hP := HP.out
        have hJ := HJ.out
        rw [hall] at hP hJ
        try rw [hall]
        obtain ⟨l, hl⟩ : ∃ l, l = joinL ls := ⟨_, rfl⟩
        have hl100 : l.length ≤ 10100 := by
          have := join_len ls (fun x hx => (hP x hx).2)
          rw [← hl, HL.out] at this
          omega
        have hlj : linesG [] l = ls := by rw [hl]; exact lines_join fun x hx => (hP x hx).1
        rw [← hl] at hJ
        try rw [← hl]
        obtain ⟨m, hm⟩ : ∃ m, m = l.length := ⟨_, rfl⟩
        have hbd := own_bounds hJ.o
        have hrl := Rd.of_own hJ.o
        have hown := hJ.o
        rw [← hm] at hbd hown
        try rw [← hm]
        obtain ⟨N, hN⟩ : ∃ N, N = wr.heap.size := ⟨_, rfl⟩
        obtain ⟨W2, hW2⟩ : ∃ W2, ((wr.alloc (.cells #[.slice A2 m c2] 22)).alloc (.cells #[.int .i64 0] 3)) = W2 := ⟨_, rfl⟩
        have hsz : W2.heap.size = N + 2 := by rw [← hW2, hN]; simp
        have hb12 : Below wr.heap.size wr W2 := by
          rw [← hW2]; exact ((Below.refl _ wr).alloc (Nat.le_refl _) _).alloc (by simp) _
        have hHN : H + 2 ≤ N := by rw [hN, ← HS0.out]; exact HJ.out.b.size
        have q0 : Blk W2 (H + 1) [.bool false] := (B0.out.1.past HJ.out.b).past hb12
        have q9 : Blk W2 H [.slice A k c] := (B9.out.past HJ.out.b).past hb12
        have q2 : Blk W2 N [.slice A2 m c2] := by
          rw [← hW2, hN]; exact (Blk.new wr [.slice A2 m c2] _).alloc _
        have q3 : Blk W2 (N + 1) [.int .i64 0] := by
          rw [← hW2, hN]; exact Blk.new' (wr.alloc _) [.int .i64 0] _ (by simp)
        have hbW : Below w.heap.size w W2 := hbw.trans (hb12.mono hbw.size)
        have hrW : Rd W2 W2.heap.size A2 l := (hrl.below hb12).more hb12.size
        have hab : ∀ j, MemB N A2 l j → j < N + 1 := by
          rintro j (rfl | ⟨h0, a, e, rfl⟩)
          · omega
          · obtain ⟨a', e', h2, -⟩ := hrl h0
            rw [e] at e'
            injection e' with e'
            subst e'
            omega
        have hnn := fun w => not_nil ⟨wr.heap.size, 0, none⟩ w
        have HF := Lib.hid (And.intro hbd (And.intro hsz (And.intro hHN (And.intro q0 (And.intro q9 (And.intro q2 (And.intro q3 (And.intro hbW (And.intro hrW (And.intro hab (And.intro hlj hm)))))))))))
        have HW2 := Lib.hid hW2
        have HN := Lib.hid hN
        clear hbd hsz hHN q0 q9 q2 q3 hbW hrW hab hlj hW2 hN hb12 hown hrl hJ hP hl HP HJ hall hbw hm
        go_wp2_with fail
        refine (lines_any A2 m c2 wr).mono ?_
        rintro e w2 ⟨rfl, rfl⟩
        go_wp2
        refine (wpIn_wide (n := 4)).1 ?_
        rw [HW2.out, ← HN.out]
        refine act_gen fun T hT => ?_
        obtain ⟨hbd, hsz, hHN, q0, q9, q2, q3, hbW, hrW, hab, hlj, hm⟩ := HF.out
        have HM := Lib.hid hm
        have HLJ := Lib.hid hlj
        clear hm hlj
        refine Ro.range_gives (gf := 19) (lb := #[.pointer (some ⟨N, 0, none⟩)]) (by rw [hT]; rfl) (enters_of Tryd.func19 (by kernel_rfl) rfl)
          (lines_gives N A2 m c2 l HM.out.symm hbd.1 hbd.2 (by rw [HM.out]; omega) W2 q2 hrW) (Below.refl _ _) (fun _ => rfl)
          (fun j => j = N + 1) (fun j hj => ⟨by omega, fun h => by have := hab j h; omega⟩) (fun j h => by have := hab j h; omega)
          (fun pre W' => Blk W' (N + 1) [.int .i64 (pre.length : Int)]) (fun _ _ _ => False)
          (fun s X Y row hs hg hr => hs.grown hg (fun e => by have := hr _ e; omega)) (fun _ _ _ _ _ hs _ _ => hs) q3
          (fun x a' W => a' = { tmps := (((T.tmps.setIfInBounds 60 (.int .i64 (x.1 : Int))).setIfInBounds 61 (sv x.2)).setIfInBounds 8 (.int .i64 (x.1 : Int))).setIfInBounds 9 (sv x.2), defers := [] })
          (fun x a' _ X Y row hs hg hr => hs)
          ?assign ?body ?done (fun D cc pre post W1 hD ho hX h => h.elim)
        case assign =>
          rintro l' mm pre x W1 K hI ho hK
          subst hT
          dsimp only [encL]
          gi_wp2
          exact hK _ _ (Out.refl _ _) hI rfl
        case body =>
          rintro l' mm pre ⟨x1, y⟩ post a' W1 hX ho hI rfl
          subst hT
          obtain ⟨hx1, hxl⟩ := numG_at hX
          obtain ⟨j, hj⟩ : ∃ j, j = pre.length := ⟨_, rfl⟩
          simp only at hx1 hxl
          rw [← hj] at hx1 hxl hI
          rw [HLJ.out] at hxl
          have hjl : j < k := by rw [← HL.out]; exact (List.getElem?_eq_some_iff.1 hxl).1
          have hx : x1 = j + 1 := by omega
          subst hx
          have z3 : W1.cell? ⟨H, 0, none⟩ = some (.slice A k c) := (q9.out ho (by omega)).cell (i := 0) rfl
          have z5 : W1.cell? ⟨N + 1, 0, none⟩ = some (.int .i64 (j : Int)) := hI.cell (i := 0) rfl
          have z6 : W1.frozen? ⟨N + 1, 0, none⟩ = false := hI.frozen 0
          have hcs : Cs W2 (H + 1) A (ls.map sv) := ((HR.out.below hbW).more (by have := HH.out; omega))
          obtain ⟨a1, rfl, -, qq⟩ := (cs_out hcs (by omega) ho (fun i hi => by omega)) (by rw [List.length_map, HL.out]; omega)
          have z7 : W1.cell? (a1.add j) = some (sv y) := qq j _ (by rw [List.getElem?_map, hxl]; rfl)
          have hjl2 : (j : Int) < (k : Int) := by omega
          have FIN := Lib.hid (show Out (fun i => i = N + 1) W1 (W1.setCell ⟨N + 1, 0, none⟩ (.int .i64 ((j : Int) + 1))) ∧ Blk (W1.setCell ⟨N + 1, 0, none⟩ (.int .i64 ((j : Int) + 1))) (N + 1) [.int .i64 (((pre ++ [(j + 1, y)]).length : Nat) : Int)] from
            ⟨(Out.refl (fun i => i = N + 1) W1).setCell (p := ⟨N + 1, 0, none⟩) (.inl rfl) _, by
              have := hI.set 0 (.int .i64 ((j : Int) + 1))
              rw [List.length_append, ← hj]; exact this⟩)
          clear hX hxl hI qq ho hx1 q0 q9 q2 q3 hbW hrW hab hj hcs hsz hHN hbd
          simp only [List.setIfInBounds_toArray, List.set_cons_zero, List.set_cons_succ]
          gi_wp2
          exact FIN.out
        case done =>
          rintro D W1 hD ho hI hK
          rw [numG_length, HLJ.out, HL.out] at hI
          have z3 : W1.cell? ⟨H, 0, none⟩ = some (.slice A k c) := (q9.out ho (by omega)).cell (i := 0) rfl
          have z5 : W1.cell? ⟨N + 1, 0, none⟩ = some (.int .i64 (k : Int)) := hI.cell (i := 0) rfl
          have b0 : Blk W1 (H + 1) [.bool false] := q0.out ho (by omega)
          have hbw : Below w.heap.size w W1 := hbW.trans (ho.below (fun i _ hi => by have := hbW.size; have := HH.out; omega) hbW.size)
          have HF2 := Lib.hid (And.intro hD (And.intro hK (And.intro b0 (And.intro hbw (And.intro hsz hHN)))))
          subst hT
          clear hD hK b0 hbw hI ho q0 q9 q2 q3 hbW hrW hab hsz hHN hbd
          go_wp2_with fail
          refine (awake_any W1 (HE.out.below HF2.out.2.2.2.1)).mono ?_
          rintro e w5 ⟨rfl, hb5⟩
          obtain ⟨hD, hK, b0, hbw, hsz, hHN⟩ := HF2.out
          have b5 := b0.past hb5
          have x0 : w5.cell? ⟨H + 1, 0, none⟩ = some (.bool false) := b5.cell (i := 0) rfl
          have x1 : w5.frozen? ⟨H + 1, 0, none⟩ = false := b5.frozen 0
          have hlt := (Array.getElem?_eq_some_iff.1 hK).1
          have hK5 : (w5.setCell ⟨H + 1, 0, none⟩ (.bool true)).heap[D]? = some (.deferred (some [])) := by
            rw [Below.heap_setCell _ _ _ _ (show D ≠ H + 1 by omega), hb5.block D hlt]; exact hK
          have hb6 : Below w.heap.size w ((w5.setCell ⟨H + 1, 0, none⟩ (.bool true)).putObj D (.deferred none)) :=
            ((hbw.trans (hb5.mono hbw.size)).setCell (p := ⟨H + 1, 0, none⟩) (by have := HH.out; show _ ≤ H + 1; omega) _).grown (grownBy_putObj' _ _ _) (by have := hbw.size; have := hb5.size; simp; omega) (fun i e => by cases e; have := HH.out; omega)
          have r0 : ((w5.setCell ⟨H + 1, 0, none⟩ (.bool true)).putObj D (.deferred none)).cell? ⟨H + 1, 0, none⟩ = some (.bool true) :=
            ((b5.set 0 (.bool true)).grown (grownBy_putObj' _ D (.deferred none)) (fun e => by injection e with e; omega)).cell (i := 0) rfl
          have FIN := Lib.hid (And.intro hK5 (And.intro hb6 r0))
          clear hD hK b0 hbw b5 hK5 hb6 r0 hb5 z3 z5 hsz hHN
          go_wp2
          refine ⟨by simp, .inl ⟨_, _, rfl, run_takeDeferred FIN.out.1, ?_⟩⟩
          refine ⟨.bool true, ?_, rfl, FIN.out.2.1⟩
          have r0 := FIN.out.2.2
          simp [results, Tryd.results8, go_sem, r0]

theorem textJoins_lifted (os : Os) (started : os.Started) (H : Type) (enc : TypeId × Value → H) :
    ReturnsInHanded {} Tryd.checked os 8 .any (fun w args => (Rows.textJoinsSpec.pre enc Tryd.prog Tryd.f8 Rows.textJoinsRow.domain false w args ∧ laidMetH Tryd.prog laidL w) ∧ sizedMet enc Tryd.prog Tryd.f8 (OpenSpec.ofChange Rows.textJoinsSpec) false w args)
      (Rows.textJoinsSpec.post enc Tryd.prog Tryd.f8 false true false false) := by
  refine returnsInHanded_of_change_and (C := Tryd.checked) (X := fun w _ => laidMetH Tryd.prog laidL w) (fun _ _ _ hh h => h.of_heap hh) own started (by kernel_rfl) Tryd.func8
    (ChangeSpec.witness_shaped (enc := enc) (C := Tryd.checked) (os := os) (X := fun w _ => laidMetH Tryd.prog laidL w) false (World.laidAll Tryd.prog os laidL) #[.slice none 0 0] 8 (World.laidAll_os _ _ _)
      (laid_shaped os) (by kernel_rfl) (by kernel_rfl) (by kernel_rfl) (laid_world os _)) ?_
  intro W base args ds gs before hval0 hW hc _ hL _
  have hval : ∀ (j : Nat) t v, Tryd.f8.params[j]? = some t → args[j]? = some v → Value.okWide Tryd.prog W .any base t v := hval0
  have hW' := hW
  obtain ⟨p, q, hA0, hV, rfl, _, _⟩ := hW
  have hA : DataW.TrodAll enc Tryd.prog W 0 (fun _ => true) true Tryd.f8.params.toList args.toList ds p := hA0
  rw [Tryd.params8] at hA hval
  obtain ⟨v0, d0, rfl, rfl, h0⟩ := trodAll_one hA
  obtain ⟨A0, n0, c0, l0, rfl, hl0, hn0, hc0, hr0⟩ := open_texts (hval 0 24 v0 rfl rfl) h0
  refine (textJoins_walk A0 n0 c0 l0 hl0 hn0 hc0 W hr0 hL).mono fun e W' ⟨he, hb⟩ => ?_
  subst he
  exact ⟨_, rfl, Lw.post_true laidOut (by kernel_rfl) rfl rfl rfl rfl (by kernel_rfl) Tryd.underlying4 hW' hb⟩
theorem textJoins_row : Rows.TextJoinsSaid :=
  OpenClaim.holds_of_wide 8 Tryd.f8 rfl rfl rfl rfl rfl rfl rfl ⟨rfl, rfl, rfl, rfl, rfl⟩ rfl rfl rfl rfl rfl (by kernel_rfl) Tryd.func8 (by kernel_rfl)
    (of_decide_eq_true (by kernel_rfl)) (by unfold Func.isWrapper; first | (rw [if_pos (by decide +kernel)]; kernel_rfl) | (rw [if_neg (by decide +kernel)]; exact ⟨rfl, rfl⟩))
    (fun os started H enc _ => textJoins_lifted os started H enc)
theorem textJoins_holds : Rows.TextJoinsCardSaid :=
  Claim7.holds_tied_plain_at .later [] [.data, .data, .data, .sentinel, .sentinel] true (true, "895b0d4dcbd46afbda2f585d1eec1a9ca2836d213674fc97b9fb9decfe8c4752") true textJoins_row (fun _ h => by cases h) (by kernel_rfl) (fun _ h => by cases h) textJoins_row_tie rfl ⟨rfl, rfl⟩ (by kernel_rfl) rfl
    (fun f fn hf hfn => by
      obtain rfl : f = 8 := Option.some.inj ((show Tryd.prog.funcNamed "palmer/palmerlaw11.TextJoins" = some 8 by kernel_rfl).symm.trans hf) |>.symm
      obtain rfl : fn = Tryd.f8 := (Option.some.inj (Tryd.func8.symm.trans hfn)).symm
      exact ⟨by kernel_rfl, fun j t ht => by
        rw [Tryd.params8] at ht
        have hm : t ∈ [24] := by simpa using Array.mem_of_getElem? ht
        have hall : ([24].all fun u => !Tryd.prog.wantsStandIn u) = true := by kernel_rfl
        exact (show Tryd.prog.wantsStandIn t = false by simpa using List.all_eq_true.1 hall t hm)⟩)
    (by kernel_rfl)
#print axioms textJoins_holds
end Go.Proofs.YtdkgiflkakaebaaDoor
