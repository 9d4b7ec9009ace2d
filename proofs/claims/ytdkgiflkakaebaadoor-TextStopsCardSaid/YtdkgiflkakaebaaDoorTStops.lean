/- TextStops: whoever stops behind some lines has met just these; gone through again it begins at the front. -/
import Derived.Test.YtdkgiflkakaebaaDoorTxV
import Derived.Test.YtdkgiflkakaebaaDoorTxC
import Derived.Test.YtdkgiflkakaebaaDoorTxJ
import Derived.Lib.MinMax
namespace Go.Proofs.YtdkgiflkakaebaaDoor
open Go.RowKit Me Tx Go.Shelf Go.Lib Go.ChangeShapes

attribute [local go_sem] Oper.semAt_some
set_option maxRecDepth 100000 in
set_option maxHeartbeats 2000000 in
theorem textStops_walk (A : Option Addr) (n c : Nat) (b : List UInt8) (hb : b.length = n) (hnc : n ≤ c) (hc : c ≤ 9223372036854775807) (kk : Nat) (hkk : kk < 256) (w : World) (hr : Rd w w.heap.size A b) (hL : laidMetH Tryd.prog laidL w) :
    Calls Tryd.prog 4 #[.slice A n c, .int .u8 (kk : Int)] w fun e w' => e = .returned (.bool true) ∧ Below w.heap.size w w' := by
  refine (callsIn_wide (n := 4)).1 ?_
  have HE := Lib.hid (laid_err hL)
  have HL := Lib.hid hb
  have HR := Lib.hid hr
  have HC := Lib.hid hc
  clear hL hb hr hc
  obtain ⟨H, hH⟩ : ∃ H, H = w.heap.size := ⟨_, rfl⟩
  obtain ⟨W0, hW0⟩ : ∃ W0, (w.alloc (.cells #[.int .u8 (kk : Int)] 5)).alloc (.cells #[.bool false] 4) = W0 := ⟨_, rfl⟩
  have b9 : Blk W0 H [.int .u8 (kk : Int)] := by rw [← hW0, hH]; exact (Blk.new w [.int .u8 (kk : Int)] _).alloc _
  have b0 : Blk W0 (H + 1) [.bool false] := by rw [← hW0, hH]; exact Blk.new' (w.alloc _) [.bool false] _ (by simp)
  have hb0 : Below w.heap.size w W0 := by rw [← hW0]; exact ((Below.refl _ w).alloc (Nat.le_refl _) _).alloc (by simp) _
  have hs0 : W0.heap.size = H + 2 := by rw [← hW0, hH]; simp
  have B9 := Lib.hid b9
  have HKK := Lib.hid hkk
  clear b9
  have HH := Lib.hid hH
  have B0 := Lib.hid (And.intro b0 hb0)
  clear hH b0 hb0
  refine callsIn_of_wp_marks Tryd.func4 rfl trivial ?_ rfl
  simp only [Tryd.ntmps4, List.size_toArray, List.length_cons, List.length_nil, Nat.reduceAdd, Nat.reduceSub, Array.replicate_succ, Array.replicate_zero, List.push_toArray, List.append_toArray, List.nil_append, List.cons_append]
  by_cases h : 3000 < n
  · have h1 : (3000 : Int) < (n : Int) := by omega
    gi_wp2_with fail
    refine ⟨trivial, (callsIn_wide.2 (awake_any W0 (HE.out.below B0.out.2))).mono ?_⟩
    rintro e w1 ⟨rfl, hb1⟩
    have b1 := B0.out.1.past hb1
    have x0 : w1.cell? ⟨w.heap.size + 1, 0, none⟩ = some (.bool false) := by have := b1.cell (i := 0) rfl; rwa [HH.out] at this
    have x1 : w1.frozen? ⟨w.heap.size + 1, 0, none⟩ = false := by have := b1.frozen 0; rwa [HH.out] at this
    have HB := Lib.hid (And.intro hb1 b1)
    clear hb1 b1
    gi_wp2
    obtain ⟨hb1, b1⟩ := HB.out
    have r0 := (b1.set 0 (.bool true)).cell (i := 0) rfl
    rw [HH.out] at r0
    refine ⟨.bool true, ?_, rfl, ?_⟩
    · simp [results, Tryd.results4, go_sem, r0]
    · exact (B0.out.2.trans (hb1.mono B0.out.2.size)).setCell (p := ⟨w.heap.size + 1, 0, none⟩) (by show _ ≤ _ + 1; omega) _
  · have h1 : ¬ (3000 : Int) < (n : Int) := by omega
    have HN30 := Lib.hid (show n ≤ 1073741824 by omega)
    gi_wp2_with ((refine ⟨trivial, ?_⟩); (refine (callsIn_wide.2 (rlines_post A n c b HL.out (by omega) _ ((HR.out.below B0.out.2).more B0.out.2.size))).mono ?_))
    rintro e w1 ⟨A1, c1, rfl, hc1, ho1, hb1⟩
    obtain ⟨ls, hls⟩ : ∃ ls, ls = linesG [] b := ⟨_, rfl⟩
    rw [← hls] at hc1 ho1
    rw [← hls]
    obtain ⟨N, hN⟩ : ∃ N, N = w1.heap.size := ⟨_, rfl⟩
    have hcs := Cs.of_own ho1
    have hHN : H + 2 ≤ N := by rw [hN, ← hs0]; exact hb1.size
    have b9 := B9.out.past hb1
    have b1 := B0.out.1.past hb1
    obtain ⟨lsn, hlsn⟩ : ∃ m, m = ls.length := ⟨_, rfl⟩
    rw [← hlsn] at hc1 ho1
    rw [← hlsn]
    obtain ⟨W2, hW2⟩ : ∃ W2, (((w1.alloc (.cells #[.slice A1 lsn c1] 24)).alloc (.cells #[.slice A n c] 22)).alloc (.cells #[.int .i64 0] 3)) = W2 := ⟨_, rfl⟩
    have hsz : W2.heap.size = N + 3 := by rw [← hW2, hN]; simp
    have hb12 : Below w1.heap.size w1 W2 := by
      rw [← hW2]; exact (((Below.refl _ w1).alloc (Nat.le_refl _) _).alloc (by simp) _).alloc (by simp; omega) _
    have hbw : Below w.heap.size w w1 := B0.out.2.trans (hb1.mono B0.out.2.size)
    have hbW : Below w.heap.size w W2 := hbw.trans (hb12.mono hbw.size)
    have q0 : Blk W2 (H + 1) [.bool false] := b1.past hb12
    have q9 : Blk W2 H [.int .u8 (kk : Int)] := b9.past hb12
    have Q9 := Lib.hid q9
    have q1 : Blk W2 N [.slice A1 lsn c1] := by
      rw [← hW2, hN]; exact ((Blk.new w1 [.slice A1 lsn c1] _).alloc _).alloc _
    have q2 : Blk W2 (N + 1) [.slice A n c] := by
      rw [← hW2, hN]; exact (Blk.new' (w1.alloc _) [.slice A n c] _ (by simp)).alloc _
    have q3 : Blk W2 (N + 2) [.int .i64 0] := by
      rw [← hW2, hN]; exact Blk.new' ((w1.alloc _).alloc _) [.int .i64 0] _ (by simp)
    have qc : Cs W2 N A1 (ls.map sv) := by rw [hN]; exact hcs.below hb12
    have HSN := Lib.hid hlsn
    have HLS := Lib.hid hls
    have HNN := Lib.hid hN
    have HB1 := Lib.hid (And.intro hbw hbW)
    have Q := Lib.hid (And.intro q0 (And.intro q1 (And.intro q2 (And.intro q3 qc))))
    have hHN2 : H + 2 ≤ N := hHN
    have HW2 := Lib.hid hW2
    clear hW2 hN
    clear hcs b1 b9 q9 hb1 ho1 hb12 hbw hbW q0 q1 q2 q3 qc hlsn hls hHN
    have hnn := fun w => not_nil ⟨w1.heap.size + 1, 0, none⟩ w
    gi_wp2_with ((refine ⟨trivial, ?_⟩); (refine (callsIn_wide.2 (lines_any A n c _)).mono ?_); rintro e w2 ⟨rfl, rfl⟩)
    rw [HW2.out, ← HNN.out, ← HH.out]
    rw [show N + 1 + 1 = N + 2 from rfl]
    have e1 := HB1.out
    obtain ⟨q0, q1, q2, q3, qc⟩ := Q.out
    have hrW : Rd W2 W2.heap.size A b := (HR.out.below e1.2).more e1.2.size
    have hab : ∀ k, MemB (N + 1) A b k → k < N + 2 := by
      rintro k (rfl | ⟨h0, a, e, rfl⟩)
      · omega
      · obtain ⟨a', e', h2, -⟩ := HR.out h0
        rw [e] at e'
        injection e' with e'
        subst e'
        have := HH.out
        omega
    have FAC := Lib.hid (And.intro hrW hab)
    -- what stands behind the first loop
    obtain ⟨Mid, hMid⟩ : ∃ Mid : Exit → Act → World → Prop, Mid = fun e a W1 => (e = .normal ∨ e = .exit 0) ∧ ∃ D v : Nat, a = { tmps := #[.slice A n c, .int .u8 (kk : Int), undef, .pointer (some ⟨H, 0, none⟩), .pointer (some ⟨H + 1, 0, none⟩), .pointer (some ⟨N, 0, none⟩), .func (.func 19) #[] #[.pointer (some ⟨N + 1, 0, none⟩)], .pointer (some ⟨N + 2, 0, none⟩), undef, undef, undef, undef, .slice A n c, .int .i64 (n : Int), .bool false, undef, .slice A n c, .slice A1 lsn c1, .slice A n c, .func (.func 19) #[] #[.pointer (some ⟨N + 1, 0, none⟩)], .func (.func 19) #[] #[.pointer (some ⟨N + 1, 0, none⟩)], .bool false, .func (.func 19) #[] #[.pointer (some ⟨N + 1, 0, none⟩)], undef, undef, undef, undef, undef, undef, undef, undef, undef, undef, undef, undef, undef, undef, undef, undef, undef, undef, undef, undef, undef, undef, undef, undef, undef, undef, undef, undef, undef, undef, undef, undef, undef, undef, undef, undef, undef, undef, undef, undef, undef, undef, undef, undef, undef, undef, undef, undef, undef], defers := [{ target := .collected D, args := #[] }] } ∧ W2.heap.size ≤ D ∧ W1.heap[D]? = some (.deferred (some [])) ∧ Out (fun k => k = N + 2) W2 W1 ∧ Blk W1 (N + 2) [.int .i64 (v : Int)] ∧ ((v = kk + 1 ∧ kk + 1 ≤ lsn) ∨ (v = lsn ∧ lsn ≤ kk)) := ⟨_, rfl⟩
    refine Go.wpIn_mono (Q := Mid) ?loop ?rest
    case loop =>
      refine Ro.range_gives (gf := 19) (lb := #[.pointer (some ⟨N + 1, 0, none⟩)]) rfl (enters_of Tryd.func19 (by kernel_rfl) rfl)
        (lines_gives (N + 1) A n c b HL.out hnc HC.out HN30.out W2 q2 hrW) (Below.refl _ _) (fun _ => rfl)
        (fun k => k = N + 2) (fun k hk => ⟨by omega, fun hm => by have := hab k hm; omega⟩) (fun k hm => by have := hab k hm; omega)
        (fun pre W' => Blk W' (N + 2) [.int .i64 (pre.length : Int)] ∧ pre.length ≤ kk) (fun cc pre W' => cc = .exit 0 ∧ Blk W' (N + 2) [.int .i64 (pre.length : Int)] ∧ pre.length = kk + 1)
        (fun s X Y row hs hg hr => ⟨hs.1.grown hg (fun e => by have := hr _ e; omega), hs.2⟩) (fun cc s X Y row hs hg hr => ⟨hs.1, hs.2.1.grown hg (fun e => by have := hr _ e; omega), hs.2.2⟩) ⟨q3, Nat.zero_le _⟩
        (fun x a' W => a' = { tmps := #[.slice A n c, .int .u8 (kk : Int), undef, .pointer (some ⟨H, 0, none⟩), .pointer (some ⟨H + 1, 0, none⟩), .pointer (some ⟨N, 0, none⟩), .func (.func 19) #[] #[.pointer (some ⟨N + 1, 0, none⟩)], .pointer (some ⟨N + 2, 0, none⟩), .int .i64 (x.1 : Int), sv x.2, undef, undef, .slice A n c, .int .i64 (n : Int), .bool false, undef, .slice A n c, .slice A1 lsn c1, .slice A n c, .func (.func 19) #[] #[.pointer (some ⟨N + 1, 0, none⟩)], .func (.func 19) #[] #[.pointer (some ⟨N + 1, 0, none⟩)], .bool false, .func (.func 19) #[] #[.pointer (some ⟨N + 1, 0, none⟩)], .int .i64 (x.1 : Int), sv x.2, undef, undef, undef, undef, undef, undef, undef, undef, undef, undef, undef, undef, undef, undef, undef, undef, undef, undef, undef, undef, undef, undef, undef, undef, undef, undef, undef, undef, undef, undef, undef, undef, undef, undef, undef, undef, undef, undef, undef, undef, undef, undef, undef, undef, undef, undef, undef], defers := [] })
        (fun x a' _ X Y row hs hg hr => hs)
        ?assign ?body ?done ?stop
      case assign =>
        rintro l' m pre x W1 K hI ho hK
        dsimp only [encL]
        gi_wp2
        exact hK _ _ (Out.refl _ _) hI rfl
      case body =>
        rintro l' m pre ⟨x1, y⟩ post a' W1 hX ho ⟨hI, hkb⟩ rfl
        obtain ⟨hx1, hxl⟩ := numG_at hX
        obtain ⟨k, hk⟩ : ∃ k, k = pre.length := ⟨_, rfl⟩
        simp only at hx1 hxl
        rw [← hk] at hx1 hxl hI hkb
        rw [← HLS.out] at hxl
        have hkl : k < lsn := by rw [HSN.out]; exact (List.getElem?_eq_some_iff.1 hxl).1
        have hx : x1 = k + 1 := by omega
        subst hx
        have z3 : W1.cell? ⟨N, 0, none⟩ = some (.slice A1 lsn c1) := (q1.out ho (by omega)).cell (i := 0) rfl
        have z9 : W1.cell? ⟨H, 0, none⟩ = some (.int .u8 (kk : Int)) := (Q9.out.out ho (by omega)).cell (i := 0) rfl
        have z5 : W1.cell? ⟨N + 2, 0, none⟩ = some (.int .i64 (k : Int)) := hI.cell (i := 0) rfl
        have z6 : W1.frozen? ⟨N + 2, 0, none⟩ = false := hI.frozen 0
        obtain ⟨a1, rfl, -, qq⟩ := (cs_out qc (by omega) ho (fun j hj => by omega)) (by rw [List.length_map, ← HSN.out]; omega)
        have z7 : W1.cell? (a1.add k) = some (sv y) := qq k _ (by rw [List.getElem?_map, hxl]; rfl)
        have hkl2 : (k : Int) < (lsn : Int) := by omega
        have hk256 : k < 256 := by have := HKK.out; omega
        have nH : ¬ H = N + 2 := by omega
        have hln : (pre ++ [(k + 1, y)]).length = k + 1 := by rw [List.length_append, ← hk]; rfl
        have f1 : Blk (W1.setCell ⟨N + 2, 0, none⟩ (.int .i64 ((k : Int) + 1))) (N + 2) [.int .i64 (((pre ++ [(k + 1, y)]).length : Nat) : Int)] := by
          rw [hln]; exact hI.set 0 (.int .i64 ((k : Int) + 1))
        have f2 : Out (fun k => k = N + 2) W1 (W1.setCell ⟨N + 2, 0, none⟩ (.int .i64 ((k : Int) + 1))) := (Out.refl (fun k => k = N + 2) W1).setCell (p := ⟨N + 2, 0, none⟩) (.inl rfl) _
        have z8 : (W1.setCell ⟨N + 2, 0, none⟩ (.int .i64 ((k : Int) + 1))).cell? ⟨H, 0, none⟩ = some (.int .u8 (kk : Int)) := ((Q9.out.out ho (by omega)).out f2 (by omega)).cell (i := 0) rfl
        have FIN := Lib.hid (And.intro f2 (And.intro f1 hln))
        clear hX hxl hI qq ho hx1 q0 q1 q2 q3 qc hrW hab e1 hk f1 f2 hln
        by_cases hb : k + 1 ≤ kk
        · have k2 : ¬ (kk : Int) < (k : Int) + 1 := by omega
          gi_wp2
          exact ⟨FIN.out.1, FIN.out.2.1, by rw [FIN.out.2.2]; exact hb⟩
        · have k2 : (kk : Int) < (k : Int) + 1 := by omega
          gi_wp2
          exact ⟨FIN.out.1, rfl, FIN.out.2.1, by rw [FIN.out.2.2]; omega⟩
      case done =>
        rintro D W1 hD ho ⟨hI, hle⟩ hK
        rw [numG_length, ← HLS.out, ← HSN.out] at hI hle
        rw [hMid]
        exact ⟨.inl rfl, D, lsn, rfl, hD, hK, ho, hI, .inr ⟨rfl, hle⟩⟩
      case stop =>
        rintro D cc pre post W1 hD ho hX ⟨rfl, hI, hle⟩ hK
        refine wpIn_exit ?_
        rw [hMid]
        have := congrArg List.length hX
        rw [numG_length, ← HLS.out, ← HSN.out, List.length_append] at this
        rw [hle] at hI
        exact ⟨.inr rfl, D, kk + 1, rfl, hD, hK, ho, hI, .inl ⟨rfl, by omega⟩⟩
    case rest =>
      intro e a W1 hm
      rw [hMid] at hm
      obtain ⟨he, D, v, rfl, hD, hK, ho, hI, hv⟩ := hm
      have z3 : W1.cell? ⟨N, 0, none⟩ = some (.slice A1 lsn c1) := (q1.out ho (by omega)).cell (i := 0) rfl
      have z9 : W1.cell? ⟨H, 0, none⟩ = some (.int .u8 (kk : Int)) := (Q9.out.out ho (by omega)).cell (i := 0) rfl
      have z5 : W1.cell? ⟨N + 2, 0, none⟩ = some (.int .i64 (v : Int)) := hI.cell (i := 0) rfl
      have hbw : Below w.heap.size w W1 := e1.2.trans (ho.below (fun k _ hk => by have := e1.2.size; have := HH.out; omega) e1.2.size)
      obtain ⟨R, hR⟩ : ∃ R, R = W1.heap.size := ⟨_, rfl⟩
      have hNR : N + 3 ≤ R := by rw [hR, ← hsz]; exact ho.size
      have hDR : D < R := by rw [hR]; exact (Array.getElem?_eq_some_iff.1 hK).1
      obtain ⟨W5, hW5⟩ : ∃ W5, W1.alloc (.cells #[.int .i64 0] 3) = W5 := ⟨_, rfl⟩
      have hb5 : Below W1.heap.size W1 W5 := by rw [← hW5]; exact (Below.refl _ W1).alloc (Nat.le_refl _) _
      have hs5 : W5.heap.size = R + 1 := by rw [← hW5, hR]; simp
      have p4 : Blk W5 R [.int .i64 0] := by rw [← hW5, hR]; exact Blk.new W1 [.int .i64 0] _
      have p2 : Blk W5 (N + 1) [.slice A n c] := (q2.out ho (by omega)).past hb5
      have p0 : Blk W5 (H + 1) [.bool false] := (q0.out ho (by omega)).past hb5
      have p1 : Blk W5 N [.slice A1 lsn c1] := (q1.out ho (by omega)).past hb5
      have pK : W5.heap[D]? = some (.deferred (some [])) := (hb5.block D (by omega)).trans hK
      have hbw5 : Below w.heap.size w W5 := hbw.trans (hb5.mono hbw.size)
      have hrW5 : Rd W5 W5.heap.size A b := (HR.out.below hbw5).more hbw5.size
      have hkk := HKK.out
      have hab5 : ∀ k, MemB (N + 1) A b k → k < N + 2 := hab
      have HP := Lib.hid (And.intro hD (And.intro hDR (And.intro p4 (And.intro p2 (And.intro p0 (And.intro p1 (And.intro pK (And.intro hbw5 (And.intro hrW5 hab5)))))))))
      have HR5 := Lib.hid hR
      have HW5 := Lib.hid hW5
      have HS5 := Lib.hid hs5
      have hlsn : lsn ≤ 1073741825 := by
        have := linesG_len b []
        rw [← HLS.out, ← HSN.out, HL.out] at this
        have := HN30.out
        omega
      clear hMid hD hDR p4 p2 p0 p1 pK hbw5 hrW5 hab5 hR hW5 hs5 hb5 hbw hI ho hK q0 q1 q2 q3 qc hrW hab e1
      have hv2 : (v : Int) = min ((kk : Int) + 1) (lsn : Int) := by omega
      have hvl : v ≤ lsn := by omega
      clear hv
      rcases he with rfl | rfl
      all_goals
        gi_wp2
        rw [← HR5.out, HW5.out]
        obtain ⟨hD, hDR, p4, p2, p0, p1, pK, hbw5, hrW5, hab5⟩ := HP.out
        have hs5 := HS5.out
        refine Ro.range_gives (gf := 19) (lb := #[.pointer (some ⟨N + 1, 0, none⟩)]) rfl (enters_of Tryd.func19 (by kernel_rfl) rfl)
          (lines_gives (N + 1) A n c b HL.out hnc HC.out HN30.out W5 p2 hrW5) (Below.refl _ _) (fun _ => rfl)
          (fun k => k = R) (fun k hk => ⟨by omega, fun hm => by have := hab5 k hm; omega⟩) (fun k hm => by have := hab5 k hm; omega)
          (fun pre W' => Blk W' R [.int .i64 (pre.length : Int)]) (fun _ _ _ => False)
          (fun s X Y row hs hg hr => hs.grown hg (fun e => by have := hr _ e; omega)) (fun _ _ _ _ _ hs _ _ => hs) p4
          (fun x a' W => a' = { tmps := #[.slice A n c, .int .u8 (kk : Int), undef, .pointer (some ⟨H, 0, none⟩), .pointer (some ⟨H + 1, 0, none⟩), .pointer (some ⟨N, 0, none⟩), .func (.func 19) #[] #[.pointer (some ⟨N + 1, 0, none⟩)], .pointer (some ⟨N + 2, 0, none⟩), undef, undef, .pointer (some ⟨R, 0, none⟩), .int .i64 (x.1 : Int), .slice A n c, .int .i64 (n : Int), .bool false, undef, .slice A n c, .slice A1 lsn c1, .slice A n c, .func (.func 19) #[] #[.pointer (some ⟨N + 1, 0, none⟩)], .func (.func 19) #[] #[.pointer (some ⟨N + 1, 0, none⟩)], .bool false, .func (.func 19) #[] #[.pointer (some ⟨N + 1, 0, none⟩)], undef, undef, undef, undef, undef, undef, undef, undef, undef, undef, undef, undef, undef, undef, undef, undef, undef, undef, undef, undef, undef, undef, undef, undef, undef, undef, .int .i64 (min ((kk : Int) + 1) (lsn : Int)), .int .u8 (kk : Int), .int .i64 (kk : Int), .int .i64 ((kk : Int) + 1), .slice A1 lsn c1, .int .i64 (lsn : Int), .int .i64 (min ((kk : Int) + 1) (lsn : Int)), .bool false, .func (.func 19) #[] #[.pointer (some ⟨N + 1, 0, none⟩)], .int .i64 (x.1 : Int), sv x.2, undef, undef, undef, undef, undef, undef, undef, undef, undef, undef, undef, undef], defers := [] })
          (fun x a' _ X Y row hs hg hr => hs)
          ?assign ?body ?done (fun D2 cc pre post W6 hD2 ho2 hX2 h => h.elim)
        case assign =>
          rintro l' m pre x W6 K hI ho hK
          dsimp only [encL]
          gi_wp2
          exact hK _ _ (Out.refl _ _) hI rfl
        case body =>
          rintro l' m pre ⟨x1, y⟩ post a' W6 hX ho hI rfl
          obtain ⟨hx1, hxl⟩ := numG_at hX
          obtain ⟨k, hk⟩ : ∃ k, k = pre.length := ⟨_, rfl⟩
          simp only at hx1 hxl
          rw [← hk] at hx1 hxl hI
          rw [← HLS.out] at hxl
          have hkl : k < lsn := by rw [HSN.out]; exact (List.getElem?_eq_some_iff.1 hxl).1
          have hx : x1 = k + 1 := by omega
          subst hx
          have z5 : W6.cell? ⟨R, 0, none⟩ = some (.int .i64 (k : Int)) := hI.cell (i := 0) rfl
          have z6 : W6.frozen? ⟨R, 0, none⟩ = false := hI.frozen 0
          have FIN := Lib.hid (show Out (fun k => k = R) W6 (W6.setCell ⟨R, 0, none⟩ (.int .i64 ((k : Int) + 1))) ∧ Blk (W6.setCell ⟨R, 0, none⟩ (.int .i64 ((k : Int) + 1))) R [.int .i64 (((pre ++ [(k + 1, y)]).length : Nat) : Int)] from
            ⟨(Out.refl (fun k => k = R) W6).setCell (p := ⟨R, 0, none⟩) (.inl rfl) _, by
              have := hI.set 0 (.int .i64 ((k : Int) + 1))
              rw [List.length_append, ← hk]; exact this⟩)
          clear hX hxl hI ho hx1 hk hv2 hvl p4 p2 p0 p1 pK hbw5 hrW5 hab5
          gi_wp2
          exact FIN.out
        case done =>
          rintro D2 W6 hD2 ho hI hK2
          rw [numG_length, ← HLS.out, ← HSN.out] at hI
          have z3 : W6.cell? ⟨N, 0, none⟩ = some (.slice A1 lsn c1) := (p1.out ho (by omega)).cell (i := 0) rfl
          have z5 : W6.cell? ⟨R, 0, none⟩ = some (.int .i64 (lsn : Int)) := hI.cell (i := 0) rfl
          have b0 : Blk W6 (H + 1) [.bool false] := p0.out ho (by omega)
          have hK1 : W6.heap[D]? = some (.deferred (some [])) := Ro.heap_out ho pK (by omega)
          have hbw6 : Below w.heap.size w W6 := hbw5.trans (ho.below (fun k _ hk => by have := hbw5.size; have := HH.out; omega) hbw5.size)
          have HF := Lib.hid (And.intro hD2 (And.intro hK2 (And.intro b0 (And.intro hbw6 (And.intro hK1 (And.intro hD hDR))))))
          clear hD2 hK2 b0 hbw6 hI ho hK1 hD hDR p4 p2 p0 p1 pK hbw5 hrW5 hab5 hv2 hvl
          gi_wp2_with fail
          refine ⟨trivial, (callsIn_wide.2 (awake_any W6 (HE.out.below HF.out.2.2.2.1))).mono ?_⟩
          rintro e w7 ⟨rfl, hb7⟩
          obtain ⟨hD2, hK2, b0, hbw6, hK1, hD, hDR⟩ := HF.out
          have b7 := b0.past hb7
          have x0 : w7.cell? ⟨H + 1, 0, none⟩ = some (.bool false) := b7.cell (i := 0) rfl
          have x1 : w7.frozen? ⟨H + 1, 0, none⟩ = false := b7.frozen 0
          have hlt2 := (Array.getElem?_eq_some_iff.1 hK2).1
          have hlt1 := (Array.getElem?_eq_some_iff.1 hK1).1
          obtain ⟨w8, hw8⟩ : ∃ w8, w7.setCell ⟨H + 1, 0, none⟩ (.bool true) = w8 := ⟨_, rfl⟩
          have hK2' : w8.heap[D2]? = some (.deferred (some [])) := by
            rw [← hw8, Below.heap_setCell _ _ _ _ (show D2 ≠ H + 1 by omega), hb7.block D2 hlt2]; exact hK2
          have hK1' : w8.heap[D]? = some (.deferred (some [])) := by
            rw [← hw8, Below.heap_setCell _ _ _ _ (show D ≠ H + 1 by omega), hb7.block D hlt1]; exact hK1
          have hK1'' : (w8.putObj D2 (.deferred none)).heap[D]? = some (.deferred (some [])) := (World.putObj_heap_other (by omega)).trans hK1'
          have hb8 : Below w.heap.size w w8 := by rw [← hw8]; exact (hbw6.trans (hb7.mono hbw6.size)).setCell (p := ⟨H + 1, 0, none⟩) (by have := HH.out; show _ ≤ H + 1; omega) _
          have hl2 : D2 < w8.heap.size := (Array.getElem?_eq_some_iff.1 hK2').1
          have hl1 : D < (w8.putObj D2 (.deferred none)).heap.size := (Array.getElem?_eq_some_iff.1 hK1'').1
          have hb9 : Below w.heap.size w ((w8.putObj D2 (.deferred none)).putObj D (.deferred none)) :=
            (hb8.grown (grownBy_putObj' _ D2 _) (by have := HH.out; omega) (fun k e => by cases e; have := HH.out; omega)).grown (grownBy_putObj' _ D _) (by have := HH.out; omega) (fun k e => by cases e; have := HH.out; omega)
          have r8 : Blk w8 (H + 1) [.bool true] := by rw [← hw8]; exact b7.set 0 (.bool true)
          have r0 : ((w8.putObj D2 (.deferred none)).putObj D (.deferred none)).cell? ⟨H + 1, 0, none⟩ = some (.bool true) :=
            ((r8.grown (grownBy_putObj' _ D2 (.deferred none)) (fun e => by injection e with e; omega)).grown (grownBy_putObj' _ D (.deferred none)) (fun e => by injection e with e; omega)).cell (i := 0) rfl
          have FIN := Lib.hid (And.intro hK2' (And.intro hK1'' (And.intro hb9 r0)))
          have HW8 := Lib.hid hw8
          clear hD2 hK2 b0 hbw6 b7 hK2' hK1' hK1'' hb8 hb9 r8 r0 hb7 z3 z5 hw8 hK1 hD hDR hlt1 hlt2 hl1 hl2
          gi_wp2
          rw [HW8.out]
          refine ⟨by simp, .inl ⟨_, _, rfl, run_takeDeferred FIN.out.1, ⟨by simp, .inl ⟨_, _, rfl, run_takeDeferred FIN.out.2.1, ?_⟩⟩⟩⟩
          refine ⟨.bool true, ?_, rfl, FIN.out.2.2.1⟩
          have r0 := FIN.out.2.2.2
          simp [results, Tryd.results4, go_sem, r0]

theorem textStops_lifted (os : Os) (started : os.Started) (H : Type) (enc : TypeId × Value → H) :
    ReturnsInHanded {} Tryd.checked os 4 .any (fun w args => (Rows.textStopsSpec.pre enc Tryd.prog Tryd.f4 Rows.textStopsRow.domain false w args ∧ laidMetH Tryd.prog laidL w) ∧ sizedMet enc Tryd.prog Tryd.f4 (OpenSpec.ofChange Rows.textStopsSpec) false w args)
      (Rows.textStopsSpec.post enc Tryd.prog Tryd.f4 false true false false) := by
  refine returnsInHanded_of_change_and (C := Tryd.checked) (X := fun w _ => laidMetH Tryd.prog laidL w) (fun _ _ _ hh h => h.of_heap hh) own started (by kernel_rfl) Tryd.func4
    (ChangeSpec.witness_shaped (enc := enc) (C := Tryd.checked) (os := os) (X := fun w _ => laidMetH Tryd.prog laidL w) false (World.laidAll Tryd.prog os laidL) #[.slice none 0 0, .int .u8 0] 8 (World.laidAll_os _ _ _)
      (laid_shaped os) (by kernel_rfl) (by kernel_rfl) (by kernel_rfl) (laid_world os _)) ?_
  intro W base args ds gs before hval0 hW hc _ hL _
  have hval : ∀ (j : Nat) t v, Tryd.f4.params[j]? = some t → args[j]? = some v → Value.okWide Tryd.prog W .any base t v := hval0
  have hW' := hW
  obtain ⟨p, q, hA0, hV, rfl, _, _⟩ := hW
  have hA : DataW.TrodAll enc Tryd.prog W 0 (fun _ => true) true Tryd.f4.params.toList args.toList ds p := hA0
  rw [Tryd.params4] at hA hval
  obtain ⟨v0, v1, d0, d1, p0, p1, rfl, rfl, rfl, h0, h1⟩ := trodAll_two hA
  obtain ⟨A0, n0, c0, l0, rfl, hl0, hn0, hc0, hr0⟩ := open_bytes Tryd.underlying22 Tryd.underlying5 cells_u8 (hval 0 22 v0 rfl rfl) h0
  obtain ⟨z1, rfl, -, -, w1⟩ := open_int Tryd.underlying5 (hval 1 5 v1 rfl rfl) h1
  have hz1 : 0 ≤ z1 ∧ z1 < 256 := by simp [Lit.wf, IntKind.min, IntKind.max, IntKind.bits, IntKind.signed] at w1; omega
  obtain ⟨x1, rfl⟩ : ∃ m : Nat, z1 = (m : Int) := ⟨z1.toNat, by omega⟩
  refine (textStops_walk A0 n0 c0 l0 hl0 hn0 hc0 x1 (by omega) W hr0 hL).mono fun e W' ⟨he, hb⟩ => ?_
  subst he
  exact ⟨_, rfl, Lw.post_true laidOut (by kernel_rfl) rfl rfl rfl rfl (by kernel_rfl) Tryd.underlying4 hW' hb⟩
theorem textStops_row : Rows.TextStopsSaid :=
  OpenClaim.holds_of_wide 4 Tryd.f4 rfl rfl rfl rfl rfl rfl rfl ⟨rfl, rfl, rfl, rfl, rfl⟩ rfl rfl rfl rfl rfl (by kernel_rfl) Tryd.func4 (by kernel_rfl)
    (of_decide_eq_true (by kernel_rfl)) (by unfold Func.isWrapper; first | (rw [if_pos (by decide +kernel)]; kernel_rfl) | (rw [if_neg (by decide +kernel)]; exact ⟨rfl, rfl⟩))
    (fun os started H enc _ => textStops_lifted os started H enc)
theorem textStops_holds : Rows.TextStopsCardSaid :=
  Claim7.holds_tied_plain_at .later [] [.data, .data, .data, .sentinel, .sentinel] true (true, "895b0d4dcbd46afbda2f585d1eec1a9ca2836d213674fc97b9fb9decfe8c4752") true textStops_row (fun _ h => by cases h) (by kernel_rfl) (fun _ h => by cases h) textStops_row_tie rfl ⟨rfl, rfl⟩ (by kernel_rfl) rfl
    (fun f fn hf hfn => by
      obtain rfl : f = 4 := Option.some.inj ((show Tryd.prog.funcNamed "palmer/palmerlaw11.TextStops" = some 4 by kernel_rfl).symm.trans hf) |>.symm
      obtain rfl : fn = Tryd.f4 := (Option.some.inj (Tryd.func4.symm.trans hfn)).symm
      exact ⟨by kernel_rfl, fun j t ht => by
        rw [Tryd.params4] at ht
        have hm : t ∈ [22, 5] := by simpa using Array.mem_of_getElem? ht
        have hall : ([22, 5].all fun u => !Tryd.prog.wantsStandIn u) = true := by kernel_rfl
        exact (show Tryd.prog.wantsStandIn t = false by simpa using List.all_eq_true.1 hall t hm)⟩)
    (by kernel_rfl)
#print axioms textStops_holds
end Go.Proofs.YtdkgiflkakaebaaDoor
