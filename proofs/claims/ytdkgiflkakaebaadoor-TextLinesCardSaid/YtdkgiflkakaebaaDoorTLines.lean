/- TextLines: any text's lines, and their numbers, are the document's. -/
import Derived.Test.YtdkgiflkakaebaaDoorTxV
import Derived.Test.YtdkgiflkakaebaaDoorTxC
import Derived.Test.YtdkgiflkakaebaaDoorTxJ
namespace Go.Proofs.YtdkgiflkakaebaaDoor
open Go.RowKit Me Tx Go.Shelf Go.Lib Go.ChangeShapes

attribute [local go_sem] Oper.semAt_some
set_option maxRecDepth 100000 in
set_option maxHeartbeats 2000000 in
theorem textLines_walk (A : Option Addr) (n c : Nat) (b : List UInt8) (hb : b.length = n) (hnc : n ≤ c) (hc : c ≤ 9223372036854775807) (w : World) (hr : Rd w w.heap.size A b) (hL : laidMetH Tryd.prog laidL w) :
    Calls Tryd.prog 3 #[.slice A n c] w fun e w' => e = .returned (.bool true) ∧ Below w.heap.size w w' := by
  refine (callsIn_wide (n := 4)).1 ?_
  have HE := Lib.hid (laid_err hL)
  have HL := Lib.hid hb
  have HR := Lib.hid hr
  have HC := Lib.hid hc
  clear hL hb hr hc
  obtain ⟨H, hH⟩ : ∃ H, H = w.heap.size := ⟨_, rfl⟩
  obtain ⟨W0, hW0⟩ : ∃ W0, w.alloc (.cells #[.bool false] 4) = W0 := ⟨_, rfl⟩
  have b0 : Blk W0 H [.bool false] := by rw [← hW0, hH]; exact Blk.new w [.bool false] _
  have hb0 : Below w.heap.size w W0 := by rw [← hW0]; exact (Below.refl _ w).alloc (Nat.le_refl _) _
  have hs0 : W0.heap.size = H + 1 := by rw [← hW0, hH]; simp
  have HH := Lib.hid hH
  have B0 := Lib.hid (And.intro b0 hb0)
  clear hH b0 hb0
  refine callsIn_of_wp_marks Tryd.func3 rfl trivial ?_ rfl
  simp only [Tryd.ntmps3, List.size_toArray, List.length_cons, List.length_nil, Nat.reduceAdd, Nat.reduceSub, Array.replicate_succ, Array.replicate_zero, List.push_toArray, List.append_toArray, List.nil_append, List.cons_append]
  by_cases h : 3000 < n
  · have h1 : (3000 : Int) < (n : Int) := by omega
    gi_wp2_with fail
    refine ⟨trivial, (callsIn_wide.2 (awake_any W0 (HE.out.below B0.out.2))).mono ?_⟩
    rintro e w1 ⟨rfl, hb1⟩
    have b1 := B0.out.1.past hb1
    have x0 : w1.cell? ⟨w.heap.size, 0, none⟩ = some (.bool false) := by have := b1.cell (i := 0) rfl; rwa [HH.out] at this
    have x1 : w1.frozen? ⟨w.heap.size, 0, none⟩ = false := by have := b1.frozen 0; rwa [HH.out] at this
    have HB := Lib.hid (And.intro hb1 b1)
    clear hb1 b1
    gi_wp2
    obtain ⟨hb1, b1⟩ := HB.out
    have r0 := (b1.set 0 (.bool true)).cell (i := 0) rfl
    rw [HH.out] at r0
    refine ⟨.bool true, ?_, rfl, ?_⟩
    · simp [results, Tryd.results3, go_sem, r0]
    · exact (B0.out.2.trans (hb1.mono B0.out.2.size)).setCell (p := ⟨w.heap.size, 0, none⟩) (Nat.le_refl _) _
  · have h1 : ¬ (3000 : Int) < (n : Int) := by omega
    have HN30 := Lib.hid (show n ≤ 1073741824 by omega)
    gi_wp2_with ((refine ⟨trivial, ?_⟩); (refine (callsIn_wide.2 (rlines_post A n c b HL.out (by omega) _ ((HR.out.below B0.out.2).more B0.out.2.size))).mono ?_))
    rintro e w1 ⟨A1, c1, rfl, hc1, ho1, hb1⟩
    obtain ⟨ls, hls⟩ : ∃ ls, ls = linesG [] b := ⟨_, rfl⟩
    rw [← hls] at hc1 ho1
    rw [← hls]
    obtain ⟨N, hN⟩ : ∃ N, N = w1.heap.size := ⟨_, rfl⟩
    have hcs := Cs.of_own ho1
    have hHN : H + 1 ≤ N := by rw [hN, ← hs0]; exact hb1.size
    have b1 := B0.out.1.past hb1
    obtain ⟨lsn, hlsn⟩ : ∃ m, m = ls.length := ⟨_, rfl⟩
    rw [← hlsn] at hc1 ho1
    rw [← hlsn]
    obtain ⟨W2, hW2⟩ : ∃ W2, (((w1.alloc (.cells #[.slice A1 lsn c1] 24)).alloc (.cells #[.slice A n c] 22)).alloc (.cells #[.int .i64 0] 3)) = W2 := ⟨_, rfl⟩
    have hsz : W2.heap.size = N + 3 := by rw [← hW2, hN]; simp
    have hb12 : Below w1.heap.size w1 W2 := by
      rw [← hW2]; exact (((Below.refl _ w1).alloc (Nat.le_refl _) _).alloc (by simp) _).alloc (by simp; omega) _
    have hbw : Below w.heap.size w w1 := B0.out.2.trans (hb1.mono B0.out.2.size)
    have hbW : Below w.heap.size w W2 := hbw.trans (hb12.mono hbw.size)
    have q0 : Blk W2 H [.bool false] := b1.past hb12
    have q1 : Blk W2 N [.slice A1 lsn c1] := by
      rw [← hW2, hN]; exact ((Blk.new w1 [.slice A1 lsn c1] _).alloc _).alloc _
    have q2 : Blk W2 (N + 1) [.slice A n c] := by
      rw [← hW2, hN]; exact (Blk.new' (w1.alloc _) [.slice A n c] _ (by simp)).alloc _
    have q3 : Blk W2 (N + 2) [.int .i64 0] := by
      rw [← hW2, hN]; exact Blk.new' ((w1.alloc _).alloc _) [.int .i64 0] _ (by simp)
    have qc : Cs W2 N A1 (ls.map sv) := by rw [hN]; exact hcs.below hb12
    have HSN := Lib.hid hlsn
    have HLS := Lib.hid hls
    have HNN := Lib.hid hN
    have HB1 := Lib.hid (And.intro hbw hbW)
    have Q := Lib.hid (And.intro q0 (And.intro q1 (And.intro q2 (And.intro q3 qc))))
    have hHN2 : H < N := by omega
    have HW2 := Lib.hid hW2
    clear hW2 hN
    clear hcs b1 hb1 ho1 hb12 hbw hbW q0 q1 q2 q3 qc hlsn hls hHN
    have hnn := fun w => not_nil ⟨w1.heap.size + 1, 0, none⟩ w
    gi_wp2_with ((refine ⟨trivial, ?_⟩); (refine (callsIn_wide.2 (lines_any A n c _)).mono ?_); rintro e w2 ⟨rfl, rfl⟩)
    rw [HW2.out, ← HNN.out, ← HH.out]
    rw [show N + 1 + 1 = N + 2 from rfl]
    have e1 := HB1.out
    obtain ⟨q0, q1, q2, q3, qc⟩ := Q.out
    have hrW : Rd W2 W2.heap.size A b := (HR.out.below e1.2).more e1.2.size
    have hab : ∀ k, MemB (N + 1) A b k → k < N + 2 := by
      rintro k (rfl | ⟨h0, a, e, rfl⟩)
      · omega
      · obtain ⟨a', e', h2, -⟩ := HR.out h0
        rw [e] at e'
        injection e' with e'
        subst e'
        have := HH.out
        omega
    refine Ro.range_gives (gf := 19) (lb := #[.pointer (some ⟨N + 1, 0, none⟩)]) rfl (enters_of Tryd.func19 (by kernel_rfl) rfl)
      (lines_gives (N + 1) A n c b HL.out hnc HC.out HN30.out W2 q2 hrW) (Below.refl _ _) (fun _ => rfl)
      (fun k => k = N + 2) (fun k hk => ⟨by omega, fun hm => by have := hab k hm; omega⟩) (fun k hm => by have := hab k hm; omega)
      (fun pre W' => Blk W' (N + 2) [.int .i64 (pre.length : Int)]) (fun _ _ _ => False)
      (fun s X Y row hs hg hr => hs.grown hg (fun e => by have := hr _ e; omega)) (fun _ _ _ _ _ hs _ _ => hs) q3
      (fun x a' W => a' = { tmps := #[.slice A n c, undef, .pointer (some ⟨H, 0, none⟩), .pointer (some ⟨N, 0, none⟩), .func (.func 19) #[] #[.pointer (some ⟨N + 1, 0, none⟩)], .pointer (some ⟨N + 2, 0, none⟩), .int .i64 (x.1 : Int), sv x.2, .slice A n c, .int .i64 (n : Int), .bool false, undef, .slice A n c, .slice A1 lsn c1, .slice A n c, .func (.func 19) #[] #[.pointer (some ⟨N + 1, 0, none⟩)], .func (.func 19) #[] #[.pointer (some ⟨N + 1, 0, none⟩)], .bool false, .func (.func 19) #[] #[.pointer (some ⟨N + 1, 0, none⟩)], .int .i64 (x.1 : Int), sv x.2, undef, undef, undef, undef, undef, undef, undef, undef, undef, undef, undef, undef, undef, undef, undef, undef, undef, undef, undef, undef, undef, undef, undef, undef, undef, undef, undef], defers := [] })
      (fun x a' _ X Y row hs hg hr => hs)
      ?assign ?body ?done (fun D cc pre post W1 hD ho hX h => h.elim)
    case assign =>
      rintro l' m pre x W1 K hI ho hK
      dsimp only [encL]
      gi_wp2
      exact hK _ _ (Out.refl _ _) hI rfl
    case body =>
      rintro l' m pre ⟨x1, y⟩ post a' W1 hX ho hI rfl
      obtain ⟨hx1, hxl⟩ := numG_at hX
      obtain ⟨k, hk⟩ : ∃ k, k = pre.length := ⟨_, rfl⟩
      simp only at hx1 hxl
      rw [← hk] at hx1 hxl hI
      rw [← HLS.out] at hxl
      have hkl : k < lsn := by rw [HSN.out]; exact (List.getElem?_eq_some_iff.1 hxl).1
      have hx : x1 = k + 1 := by omega
      subst hx
      have z3 : W1.cell? ⟨N, 0, none⟩ = some (.slice A1 lsn c1) := (q1.out ho (by omega)).cell (i := 0) rfl
      have z5 : W1.cell? ⟨N + 2, 0, none⟩ = some (.int .i64 (k : Int)) := hI.cell (i := 0) rfl
      have z6 : W1.frozen? ⟨N + 2, 0, none⟩ = false := hI.frozen 0
      obtain ⟨a1, rfl, -, qq⟩ := (cs_out qc (by omega) ho (fun j hj => by omega)) (by rw [List.length_map, ← HSN.out]; omega)
      have z7 : W1.cell? (a1.add k) = some (sv y) := qq k _ (by rw [List.getElem?_map, hxl]; rfl)
      have hlen30 : lsn ≤ 1073741825 := by
        have := linesG_len b []
        rw [← HLS.out, ← HSN.out, HL.out] at this
        have := HN30.out
        omega
      have hkl2 : (k : Int) < (lsn : Int) := by omega
      have FIN := Lib.hid (show Out (fun k => k = N + 2) W1 (W1.setCell ⟨N + 2, 0, none⟩ (.int .i64 ((k : Int) + 1))) ∧ Blk (W1.setCell ⟨N + 2, 0, none⟩ (.int .i64 ((k : Int) + 1))) (N + 2) [.int .i64 (((pre ++ [(k + 1, y)]).length : Nat) : Int)] from
        ⟨(Out.refl (fun k => k = N + 2) W1).setCell (p := ⟨N + 2, 0, none⟩) (.inl rfl) _, by
          have := hI.set 0 (.int .i64 ((k : Int) + 1))
          rw [List.length_append, ← hk]; exact this⟩)
      clear hX hxl hI qq ho hx1 q0 q1 q2 q3 qc hrW hab e1 hk
      gi_wp2
      exact FIN.out
    case done =>
      rintro D W1 hD ho hI hK
      rw [numG_length, ← HLS.out, ← HSN.out] at hI
      have z3 : W1.cell? ⟨N, 0, none⟩ = some (.slice A1 lsn c1) := (q1.out ho (by omega)).cell (i := 0) rfl
      have z5 : W1.cell? ⟨N + 2, 0, none⟩ = some (.int .i64 (lsn : Int)) := hI.cell (i := 0) rfl
      have b0 : Blk W1 H [.bool false] := q0.out ho (by omega)
      have hbw : Below w.heap.size w W1 := e1.2.trans (ho.below (fun k _ hk => by have := e1.2.size; have := HH.out; omega) e1.2.size)
      have HF := Lib.hid (And.intro hD (And.intro hK (And.intro b0 hbw)))
      clear hD hK b0 hbw hI ho q0 q1 q2 q3 qc hrW hab e1
      gi_wp2_with fail
      refine ⟨trivial, (callsIn_wide.2 (awake_any W1 (HE.out.below HF.out.2.2.2))).mono ?_⟩
      rintro e w5 ⟨rfl, hb5⟩
      obtain ⟨hD, hK, b0, hbw⟩ := HF.out
      have b5 := b0.past hb5
      have x0 : w5.cell? ⟨H, 0, none⟩ = some (.bool false) := b5.cell (i := 0) rfl
      have x1 : w5.frozen? ⟨H, 0, none⟩ = false := b5.frozen 0
      have hlt := (Array.getElem?_eq_some_iff.1 hK).1
      have hK5 : (w5.setCell ⟨H, 0, none⟩ (.bool true)).heap[D]? = some (.deferred (some [])) := by
        rw [Below.heap_setCell _ _ _ _ (show D ≠ H by omega), hb5.block D hlt]; exact hK
      have hb6 : Below w.heap.size w ((w5.setCell ⟨H, 0, none⟩ (.bool true)).putObj D (.deferred none)) :=
        ((hbw.trans (hb5.mono hbw.size)).setCell (p := ⟨H, 0, none⟩) (by have := HH.out; show _ ≤ H; omega) _).grown (grownBy_putObj' _ _ _) (by have := hbw.size; have := hb5.size; simp; omega) (fun k e => by cases e; have := HH.out; omega)
      have r0 : ((w5.setCell ⟨H, 0, none⟩ (.bool true)).putObj D (.deferred none)).cell? ⟨H, 0, none⟩ = some (.bool true) :=
        ((b5.set 0 (.bool true)).grown (grownBy_putObj' _ D (.deferred none)) (fun e => by injection e with e; omega)).cell (i := 0) rfl
      have FIN := Lib.hid (And.intro hK5 (And.intro hb6 r0))
      clear hD hK b0 hbw b5 hK5 hb6 r0 hb5 z3 z5
      gi_wp2
      refine ⟨by simp, .inl ⟨_, _, rfl, run_takeDeferred FIN.out.1, ?_⟩⟩
      refine ⟨.bool true, ?_, rfl, FIN.out.2.1⟩
      have r0 := FIN.out.2.2
      simp [results, Tryd.results3, go_sem, r0]

theorem textLines_lifted (os : Os) (started : os.Started) (H : Type) (enc : TypeId × Value → H) :
    ReturnsInHanded {} Tryd.checked os 3 .any (fun w args => (Rows.textLinesSpec.pre enc Tryd.prog Tryd.f3 Rows.textLinesRow.domain false w args ∧ laidMetH Tryd.prog laidL w) ∧ sizedMet enc Tryd.prog Tryd.f3 (OpenSpec.ofChange Rows.textLinesSpec) false w args)
      (Rows.textLinesSpec.post enc Tryd.prog Tryd.f3 false true false false) := by
  refine returnsInHanded_of_change_and (C := Tryd.checked) (X := fun w _ => laidMetH Tryd.prog laidL w) (fun _ _ _ hh h => h.of_heap hh) own started (by kernel_rfl) Tryd.func3
    (ChangeSpec.witness_shaped (enc := enc) (C := Tryd.checked) (os := os) (X := fun w _ => laidMetH Tryd.prog laidL w) false (World.laidAll Tryd.prog os laidL) #[.slice none 0 0] 8 (World.laidAll_os _ _ _)
      (laid_shaped os) (by kernel_rfl) (by kernel_rfl) (by kernel_rfl) (laid_world os _)) ?_
  intro W base args ds gs before hval0 hW hc _ hL _
  have hval : ∀ (j : Nat) t v, Tryd.f3.params[j]? = some t → args[j]? = some v → Value.okWide Tryd.prog W .any base t v := hval0
  have hW' := hW
  obtain ⟨p, q, hA0, hV, rfl, _, _⟩ := hW
  have hA : DataW.TrodAll enc Tryd.prog W 0 (fun _ => true) true Tryd.f3.params.toList args.toList ds p := hA0
  rw [Tryd.params3] at hA hval
  obtain ⟨v0, d0, rfl, rfl, h0⟩ := trodAll_one hA
  obtain ⟨A0, n0, c0, l0, rfl, hl0, hn0, hc0, hr0⟩ := open_bytes Tryd.underlying22 Tryd.underlying5 cells_u8 (hval 0 22 v0 rfl rfl) h0
  refine (textLines_walk A0 n0 c0 l0 hl0 hn0 hc0 W hr0 hL).mono fun e W' ⟨he, hb⟩ => ?_
  subst he
  exact ⟨_, rfl, Lw.post_true laidOut (by kernel_rfl) rfl rfl rfl rfl (by kernel_rfl) Tryd.underlying4 hW' hb⟩
theorem textLines_row : Rows.TextLinesSaid :=
  OpenClaim.holds_of_wide 3 Tryd.f3 rfl rfl rfl rfl rfl rfl rfl ⟨rfl, rfl, rfl, rfl, rfl⟩ rfl rfl rfl rfl rfl (by kernel_rfl) Tryd.func3 (by kernel_rfl)
    (of_decide_eq_true (by kernel_rfl)) (by unfold Func.isWrapper; first | (rw [if_pos (by decide +kernel)]; kernel_rfl) | (rw [if_neg (by decide +kernel)]; exact ⟨rfl, rfl⟩))
    (fun os started H enc _ => textLines_lifted os started H enc)
theorem textLines_holds : Rows.TextLinesCardSaid :=
  Claim7.holds_tied_plain_at .later [] [.data, .data, .data, .sentinel, .sentinel] true (true, "895b0d4dcbd46afbda2f585d1eec1a9ca2836d213674fc97b9fb9decfe8c4752") true textLines_row (fun _ h => by cases h) (by kernel_rfl) (fun _ h => by cases h) textLines_row_tie rfl ⟨rfl, rfl⟩ (by kernel_rfl) rfl
    (fun f fn hf hfn => by
      obtain rfl : f = 3 := Option.some.inj ((show Tryd.prog.funcNamed "palmer/palmerlaw11.TextLines" = some 3 by kernel_rfl).symm.trans hf) |>.symm
      obtain rfl : fn = Tryd.f3 := (Option.some.inj (Tryd.func3.symm.trans hfn)).symm
      exact ⟨by kernel_rfl, fun j t ht => by
        rw [Tryd.params3] at ht
        have hm : t ∈ [22] := by simpa using Array.mem_of_getElem? ht
        have hall : ([22].all fun u => !Tryd.prog.wantsStandIn u) = true := by kernel_rfl
        exact (show Tryd.prog.wantsStandIn t = false by simpa using List.all_eq_true.1 hall t hm)⟩)
    (by kernel_rfl)
#print axioms textLines_holds
end Go.Proofs.YtdkgiflkakaebaaDoor
