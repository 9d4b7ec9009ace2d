/- The segment that contains what is searched. -/
import Derived.Test.YtoflbfkmkalgcaaPiD
import Derived.Laws.ResultCell
import Derived.WalkMore
namespace Go.Proofs.Ytoflbfkmkalgcaa
open Go.RowKit Me Va Al

attribute [local go_sem] Oper.semAt_some
set_option maxRecDepth 100000 in
set_option maxHeartbeats 2000000 in
theorem find_any {g pf : Nat} {lb plb : Array Value} {Xs : List SgD} {M : Nat → Prop} {f : SgD → Nat} {s0 : SgD} (eg : ∀ args w, (callFunc g args).run Try.prog w = .ok (.enter g args) w) (ep : ∀ args w, (callFunc pf args).run Try.prog w = .ok (.enter pf args) w)
    (w : World) (hg : Ro.Gives Try.prog g lb encS Xs M w) (hM : ∀ k, M k → k < w.heap.size)
    (hp : ∀ (W : World) (s : SgD), Below w.heap.size w W → s ∈ Xs → Calls Try.prog pf (encS s ++ plb) W fun e W' => e = .returned (.int .u64 (f s : Int)) ∧ Below W.heap.size W W')
    (hf : Xs.find? (fun s => decide (f s < s.size)) = some s0) :
    Calls Try.prog 21 #[.func (.func g) #[] lb, .func (.func pf) #[] plb] w fun e w' => e = .returned (.tuple #[.agg #[.int .u64 (s0.draw : Int), .int .u64 (s0.num : Int), .int .u64 (s0.size : Int)], .int .u64 (f s0 : Int)]) ∧ Below w.heap.size w w' := by
  refine (callsIn_wide (n := 4)).1 ?_
  obtain ⟨H, hH⟩ : ∃ H, H = w.heap.size := ⟨_, rfl⟩
  obtain ⟨W1, hW1⟩ : ∃ W1, W1 = (((w.alloc (.cells #[.func (.func pf) #[] plb] 54)).alloc (.cells #[.int .u64 0, .int .u64 0, .int .u64 0] 48)).alloc (.cells #[.int .u64 0, .int .u64 0, .int .u64 0] 48)).alloc (.cells #[.int .u64 0] 24) := ⟨_, rfl⟩
  have hb1 : Below w.heap.size w W1 := by rw [hW1]; exact ((((Below.refl _ w).alloc (Nat.le_refl _) _).alloc (by simp) _).alloc (by simp; omega) _).alloc (by simp; omega) _
  have hs1 : W1.heap.size = H + 4 := by rw [hW1, hH]; simp
  have k0 : Blk W1 H [.func (.func pf) #[] plb] := by rw [hW1, hH]; exact (((Blk.new w [.func (.func pf) #[] plb] _).alloc _).alloc _).alloc _
  have k1 : Blk W1 (H + 1) [.int .u64 0, .int .u64 0, .int .u64 0] := by rw [hW1, hH]; exact ((Blk.new' (w.alloc _) [.int .u64 0, .int .u64 0, .int .u64 0] _ (by simp)).alloc _).alloc _
  have k2 : Blk W1 (H + 2) [.int .u64 0, .int .u64 0, .int .u64 0] := by rw [hW1, hH]; exact (Blk.new' ((w.alloc _).alloc _) [.int .u64 0, .int .u64 0, .int .u64 0] _ (by simp)).alloc _
  have k3 : Blk W1 (H + 3) [.int .u64 0] := by rw [hW1, hH]; exact Blk.new' (((w.alloc _).alloc _).alloc _) [.int .u64 0] _ (by simp)
  have HW1 := Lib.hid hW1
  have HB1 := Lib.hid hb1
  have HH := Lib.hid hH
  have HG := Lib.hid hg
  have HM := Lib.hid hM
  have HP := Lib.hid hp
  have HF := Lib.hid hf
  have EG := Lib.hid eg
  have EP := Lib.hid ep
  have K0 := Lib.hid k0
  have K1 := Lib.hid k1
  have K2 := Lib.hid k2
  have K3 := Lib.hid k3
  have HS1 := Lib.hid hs1
  clear hW1 hb1 hH hg hM hp hf eg ep k0 k1 k2 k3 hs1
  refine callsIn_of_wp_marks Try.func21 rfl trivial ?_ rfl
  simp only [Try.ntmps21, List.size_toArray, List.length_cons, List.length_nil, Nat.reduceAdd, Nat.reduceSub, Array.replicate_succ, Array.replicate_zero, List.push_toArray, List.append_toArray, List.nil_append, List.cons_append]
  gi_wp2
  refine wpIn_scope (wpIn_seq ?_)
  gi_wp2
  refine wpIn_label ?_
  gi_wp2
  rw [← HW1.out, ← HH.out, show H + 1 + 1 + 1 = H + 3 from rfl, show H + 1 + 1 = H + 2 from rfl]
  have hs1 := HS1.out
  refine Ro.range_gives (gf := g) (lb := lb) rfl EG.out HG.out HB1.out (fun _ => rfl)
    (fun k => k = H + 2 ∨ k = H + 3) ?hS ?hM
    (fun pre W' => pre.find? (fun s => decide (f s < s.size)) = none ∧ (∃ u v z, Blk W' (H + 2) [u, v, z]) ∧ ∃ z, Blk W' (H + 3) [z])
    (fun c pre W' => c = .exit 0 ∧ Blk W' (H + 2) [.int .u64 (s0.draw : Int), .int .u64 (s0.num : Int), .int .u64 (s0.size : Int)] ∧ Blk W' (H + 3) [.int .u64 (f s0 : Int)])
    (fun s X Y row hs hg hr => ⟨hs.1, by obtain ⟨u, v, z, h⟩ := hs.2.1; exact ⟨u, v, z, h.grown hg (fun e => by have := hr _ e; omega)⟩, by obtain ⟨z, h⟩ := hs.2.2; exact ⟨z, h.grown hg (fun e => by have := hr _ e; omega)⟩⟩)
    (fun c s X Y row hs hg hr => ⟨hs.1, hs.2.1.grown hg (fun e => by have := hr _ e; omega), hs.2.2.grown hg (fun e => by have := hr _ e; omega)⟩)
    ⟨rfl, ⟨_, _, _, K2.out⟩, ⟨_, K3.out⟩⟩
    (fun x a' W' => a' = { tmps := #[.func (.func g) #[] lb, .func (.func pf) #[] plb, undef, .pointer (some ⟨H, 0, none⟩), .pointer (some ⟨H + 1, 0, none⟩), .int .u64 0, .pointer (some ⟨H + 2, 0, none⟩), .pointer (some ⟨H + 3, 0, none⟩), .func (.func g) #[] lb, .agg #[.int .u64 (x.draw : Int), .int .u64 (x.num : Int), .int .u64 (x.size : Int)], undef, undef, undef, undef, undef, undef, undef, undef, undef], defers := [] } ∧ Blk W' (H + 2) [.int .u64 (x.draw : Int), .int .u64 (x.num : Int), .int .u64 (x.size : Int)])
    (fun x a' _ X Y row hs hg hr => ⟨hs.1, hs.2.grown hg (fun e => by have := hr _ e; omega)⟩)
    ?assign ?body ?done ?stop
  case hS =>
    intro k hk
    have : k < H + 4 := by omega
    exact ⟨by omega, fun hm => by have := HM.out _ hm; have := HH.out; omega⟩
  case hM => intro k hm; have := HM.out _ hm; have := HH.out; omega
  case assign =>
    rintro l' m pre x W2 K ⟨hI, ⟨u, v, z, h2⟩, h3⟩ ho hK
    have r0 := h2.frozen 0
    have r1 := h2.frozen 1
    have r2 := h2.frozen 2
    have c0 := h2.cell (i := 0) rfl
    have c1 := h2.cell (i := 1) rfl
    have c2 := h2.cell (i := 2) rfl
    have hlt := h2.lt
    dsimp only [encS]
    have FIN := Lib.hid (show Out (fun k => k = H + 2 ∨ k = H + 3) W2 (((W2.setCell ⟨H + 2, 0, none⟩ (.int .u64 (x.draw : Int))).setCell ⟨H + 2, 1, none⟩ (.int .u64 (x.num : Int))).setCell ⟨H + 2, 2, none⟩ (.int .u64 (x.size : Int))) ∧ Blk (((W2.setCell ⟨H + 2, 0, none⟩ (.int .u64 (x.draw : Int))).setCell ⟨H + 2, 1, none⟩ (.int .u64 (x.num : Int))).setCell ⟨H + 2, 2, none⟩ (.int .u64 (x.size : Int))) (H + 2) [.int .u64 (x.draw : Int), .int .u64 (x.num : Int), .int .u64 (x.size : Int)] ∧ ∃ z, Blk (((W2.setCell ⟨H + 2, 0, none⟩ (.int .u64 (x.draw : Int))).setCell ⟨H + 2, 1, none⟩ (.int .u64 (x.num : Int))).setCell ⟨H + 2, 2, none⟩ (.int .u64 (x.size : Int))) (H + 3) [z] from by
      refine ⟨(((Out.refl (fun k => k = H + 2 ∨ k = H + 3) W2).setCell (p := ⟨H + 2, 0, none⟩) (.inl (.inl rfl)) _).setCell (p := ⟨H + 2, 1, none⟩) (.inl (.inl rfl)) _).setCell (p := ⟨H + 2, 2, none⟩) (.inl (.inl rfl)) _, ((h2.set 0 (.int .u64 (x.draw : Int))).set 1 (.int .u64 (x.num : Int))).set 2 (.int .u64 (x.size : Int)), ?_⟩
      obtain ⟨z3, h3⟩ := h3
      exact ⟨z3, ((h3.other (p := ⟨H + 2, 0, none⟩) (by show H + 2 ≠ H + 3; omega) _).other (p := ⟨H + 2, 1, none⟩) (by show H + 2 ≠ H + 3; omega) _).other (p := ⟨H + 2, 2, none⟩) (by show H + 2 ≠ H + 3; omega) _⟩)
    clear h2 h3 ho
    gi_wp2
    exact hK _ _ FIN.out.1 ⟨hI, ⟨_, _, _, FIN.out.2.1⟩, FIN.out.2.2⟩ ⟨rfl, FIN.out.2.1⟩
  case body =>
    rintro l' m pre x post a' W2 hX ho ⟨hI, -, z0, h3⟩ ⟨rfl, h2⟩
    have b0 := K0.out.out ho (by omega)
    have c9 := b0.cell (i := 0) rfl
    have c0 := h2.cell (i := 0) rfl
    have c1 := h2.cell (i := 1) rfl
    have c2 := h2.cell (i := 2) rfl
    have hxm : x ∈ Xs := by rw [hX]; simp
    have hbw : Below w.heap.size w W2 := HB1.out.trans (ho.below (fun k _ hk => by have := HH.out; omega) HB1.out.size)
    have HCL := Lib.hid (HP.out W2 x hbw hxm)
    obtain ⟨v, hv⟩ : ∃ v, v = f x := ⟨_, rfl⟩
    obtain ⟨zz, hzz⟩ : ∃ zz, zz = x.size := ⟨_, rfl⟩
    rw [← hv] at HCL
    have H2 := Lib.hid h2
    have H3 := Lib.hid h3
    have HI := Lib.hid hI
    have HO := Lib.hid ho
    have HX := Lib.hid hX
    have HV := Lib.hid hv
    have HZ := Lib.hid hzz
    have ep := EP.out
    clear h2 h3 hI ho hX hxm hbw b0 hv hzz
    gi_wp2_with fail
    refine ⟨trivial, by simp [Fence.wide], ((callsIn_wide.2 HCL.out).inRound l').mono ?_⟩
    rintro e W3 ⟨rfl, hb3⟩
    have H4 := Lib.hid (H2.out.past hb3)
    have H5 := Lib.hid (H3.out.past hb3)
    have HO3 := Lib.hid (Out.of_below (S := fun k => k = H + 2 ∨ k = H + 3) hb3)
    have r3 := H5.out.frozen 0
    have hlt3 := H5.out.lt
    have c3 := H5.out.cell (i := 0) rfl
    have d2 := H4.out.cell (i := 2) rfl
    have hlt2 := H4.out.lt
    have FIN := Lib.hid (show Out (fun k => k = H + 2 ∨ k = H + 3) W2 (W3.setCell ⟨H + 3, 0, none⟩ (.int .u64 (v : Int))) ∧ Blk (W3.setCell ⟨H + 3, 0, none⟩ (.int .u64 (v : Int))) (H + 2) [.int .u64 (x.draw : Int), .int .u64 (x.num : Int), .int .u64 (x.size : Int)] ∧ Blk (W3.setCell ⟨H + 3, 0, none⟩ (.int .u64 (v : Int))) (H + 3) [.int .u64 (v : Int)] from
      ⟨HO3.out.setCell (p := ⟨H + 3, 0, none⟩) (.inl (.inr rfl)) _, H4.out.other (p := ⟨H + 3, 0, none⟩) (by show H + 3 ≠ H + 2; omega) _, H5.out.set 0 _⟩)
    have hne : ¬ H + 2 = H + 3 := by omega
    clear hb3 c0 c1 c2 c9 ep
    rw [← HZ.out] at d2
    by_cases hlt : v < zz
    · have hlt2' : (v : Int) < (zz : Int) := by omega
      have HS := Lib.hid (show x = s0 by
        have h1 := HF.out
        rw [HX.out, List.find?_append, HI.out] at h1
        rw [List.find?_cons_of_pos (by rw [← HV.out, ← HZ.out]; simpa using hlt)] at h1
        simpa using h1)
      have HVE := Lib.hid (show v = f s0 by rw [← HS.out]; exact HV.out)
      gi_wp2
      exact ⟨FIN.out.1, rfl, by rw [← HS.out]; exact FIN.out.2.1, by rw [← HVE.out]; exact FIN.out.2.2⟩
    · have hlt2' : ¬ (v : Int) < (zz : Int) := by omega
      have HS := Lib.hid (show (pre ++ [x]).find? (fun s => decide (f s < s.size)) = none by
        rw [List.find?_append, HI.out, List.find?_cons_of_neg (by rw [← HV.out, ← HZ.out]; simpa using hlt)]
        rfl)
      gi_wp2
      exact ⟨FIN.out.1, HS.out, ⟨_, _, _, FIN.out.2.1⟩, ⟨_, FIN.out.2.2⟩⟩
  case done =>
    rintro D W2 hD ho ⟨hI, -⟩ hK
    rw [HF.out] at hI
    cases hI
  case stop =>
    rintro D cc pre post W2 hD ho hX ⟨rfl, h2, h3⟩ hK
    refine wpIn_exit ?_
    have q1 := K1.out.out ho (by omega)
    have HQ1 := Lib.hid q1
    have H2 := Lib.hid h2
    have H3 := Lib.hid h3
    have c0 := h2.cell (i := 0) rfl
    have c1 := h2.cell (i := 1) rfl
    have c2 := h2.cell (i := 2) rfl
    have c3 := h3.cell (i := 0) rfl
    have e0 := q1.cell (i := 0) rfl
    have e1 := q1.cell (i := 1) rfl
    have e2 := q1.cell (i := 2) rfl
    have r0 := q1.frozen 0
    have r1 := q1.frozen 1
    have r2 := q1.frozen 2
    have l1 := q1.lt
    have l2 := h2.lt
    have l3 := h3.lt
    have HO := Lib.hid ho
    have HK := Lib.hid hK
    have hDe := hD
    clear q1 h2 h3 ho hK hX hD
    gi_wp2
    gi_region
    gi_wp2
    rw [Exit.noGoto_ret]
    have hsb : W2.heap.size ≥ W1.heap.size := HO.out.size
    have hDH : H + 4 ≤ D := by rw [← hs1]; exact hDe
    obtain ⟨W4, hW4⟩ : ∃ W4, W4 = (((W2.setCell ⟨H + 1, 0, none⟩ (.int .u64 (s0.draw : Int))).setCell ⟨H + 1, 1, none⟩ (.int .u64 (s0.num : Int))).setCell ⟨H + 1, 2, none⟩ (.int .u64 (s0.size : Int))).drew := ⟨_, rfl⟩
    have hB4 : Blk W4 (H + 1) [.int .u64 (s0.draw : Int), .int .u64 (s0.num : Int), .int .u64 (s0.size : Int)] := by
      rw [hW4]; exact (((HQ1.out.set 0 (.int .u64 (s0.draw : Int))).set 1 (.int .u64 (s0.num : Int))).set 2 (.int .u64 (s0.size : Int))).drew
    have hb4 : Below w.heap.size w W4 := by
      have h1 : Below w.heap.size w W2 := HB1.out.trans (HO.out.below (fun k _ hk => by have := HH.out; omega) HB1.out.size)
      rw [hW4]
      have hw : w.heap.size ≤ H + 1 := by have := HH.out; omega
      exact (((h1.setCell (p := ⟨H + 1, 0, none⟩) hw _).setCell (p := ⟨H + 1, 1, none⟩) hw _).setCell (p := ⟨H + 1, 2, none⟩) hw _).drew
    have hK4 : W4.heap[D]? = some (.deferred (some [])) := by
      rw [hW4]
      show (((W2.setCell ⟨H + 1, 0, none⟩ (.int .u64 (s0.draw : Int))).setCell ⟨H + 1, 1, none⟩ (.int .u64 (s0.num : Int))).setCell ⟨H + 1, 2, none⟩ (.int .u64 (s0.size : Int))).heap[D]? = _
      rw [Below.heap_setCell _ _ _ _ (by show D ≠ H + 1; omega), Below.heap_setCell _ _ _ _ (by show D ≠ H + 1; omega), Below.heap_setCell _ _ _ _ (by show D ≠ H + 1; omega)]
      exact HK.out
    rw [← hW4]
    have hB5 : Blk (W4.putObj D (.deferred none)) (H + 1) [.int .u64 (s0.draw : Int), .int .u64 (s0.num : Int), .int .u64 (s0.size : Int)] := hB4.grown (grownBy_putObj' W4 D _) (fun e => by injection e; omega)
    have hb5 : Below w.heap.size w (W4.putObj D (.deferred none)) := hb4.grown (grownBy_putObj' W4 D _) hb4.size (fun k e => by cases e; have := HH.out; omega)
    refine ⟨by simp, .inl ⟨_, _, rfl, run_takeDeferred hK4, ?_⟩⟩
    refine ⟨.tuple #[.agg #[.int .u64 (s0.draw : Int), .int .u64 (s0.num : Int), .int .u64 (s0.size : Int)], .int .u64 (f s0 : Int)], ?_, rfl, hb5⟩
    have hl := run_loadVar_mid (P := Try.prog) (W4.putObj D (.deferred none)) (H + 1) 0 48 [.int .u64 (s0.draw : Int), .int .u64 (s0.num : Int), .int .u64 (s0.size : Int)] _ (hB5.range 0 3) Try.underlying48 rfl (by kernel_rfl)
    rw [results_cell_tmp (p := 4) (u := 5) (ty := 48) rfl]
    simp [asAddr, Result.andThen, hl]
end Go.Proofs.Ytoflbfkmkalgcaa
