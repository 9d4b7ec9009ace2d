/- MergeEach: whoever goes through any keys' rows. -/
import Derived.Test.YtniffijjdehnaaaMmO
namespace Go.Proofs.Ytniffijjdehnaaa
open Go.RowKit Me Tx Ed Mg Va

theorem run_neq_func14 {P : Program} {w : World} {t : TypeId} {ps rs : Array TypeId} {vd : Bool} (h : P.underlying t = some (.func ps rs vd)) (f : Fn) (x c : Array Value) :
    (binOp .neq t (.func f x c) .nilFunc).run P w = .ok (.bool true) w := by
  have e : (Op.equal t (.func f x c) .nilFunc).run P w = .ok false w := run_equalIn_func14 9999 h f x c
  simp only [binOp]
  simp [e]
theorem toldR_small (keys : List (List UInt8)) (h : keys.length ≤ 1000) : ∀ r ∈ toldR keys, r.2.length ≤ 4294967296 := by
  obtain ⟨h1, -, h3⟩ := goK_take keys [] none (goK [] none keys).1
  have e : (keysG [] none (keys.take (goK [] none keys).1)).1 = (goK [] none keys).2.1 := by
    rw [keysG_go, if_pos (h1 (Nat.le_refl _))]
    exact h3 rfl
  have hs := keysG_small (keys.take (goK [] none keys).1) (by rw [List.length_take]; omega)
  rw [e] at hs
  unfold toldR
  intro r hr
  split at hr
  · exact hs r hr
  · rw [← rowM_front] at hr
    exact hs r (List.mem_of_mem_take hr)
/-- What is known of each slot where what was met is asked. -/
def meG (H N n2 c2 kk c7 : Nat) (A2 A7 : Option Addr) : Gw.Fact := fun t v _ =>
  match t with
  | 3 => v = .pointer (some ⟨H, 0, none⟩)
  | 4 => v = .pointer (some ⟨H + 1, 0, none⟩)
  | 6 | 77 | 85 => v = .slice A2 n2 c2
  | 9 => v = .pointer (some ⟨N + 3, 0, none⟩)
  | 10 => v = .pointer (some ⟨N + 4, 0, none⟩)
  | 74 => v = .int .i64 0
  | 75 | 76 | 81 | 82 | 83 | 90 | 91 | 92 | 93 | 94 => v = .bool true
  | 78 => v = .int .i64 (n2 : Int)
  | 79 | 86 => v = .int .u8 (kk : Int)
  | 80 | 87 => v = .int .i64 (kk : Int)
  | 84 => v = .slice A7 (kk + 1) c7
  | 88 => v = .int .i64 ((kk : Int) + 1)
  | 89 => v = .slice A2 (kk + 1) c2
  | _ => True
theorem act_gen14 {F : Fence} {n : Nat} {P : Program} {c : Code} {Q : Exit → Act → World → Prop} {a : Act} {w : World} (h : ∀ T, T = a → c.wpIn F n P Q T w) : c.wpIn F n P Q a w := h a rfl
attribute [local go_sem] Oper.semAt_some
set_option maxRecDepth 100000 in
set_option maxHeartbeats 8000000 in
theorem mergeEach_law (A : Option Addr) (n c kk : Nat) (es : List Pc) (w : World) (hkk : kk < 256) (hl : es.length = n) (hnc : n ≤ c) (hc63 : c ≤ 9223372036854775807) (hr : BRows w w.heap.size A es) :
    Calls Try.prog 5 #[.slice A n c, .int .u8 (kk : Int)] w fun e w' => e = .returned (.bool true) ∧ Below w.heap.size w w' := by
  refine (callsIn_wide (n := 4)).1 ?_
  obtain ⟨H, hH⟩ : ∃ H, H = w.heap.size := ⟨_, rfl⟩
  obtain ⟨W0, hW0⟩ : ∃ W0, (w.alloc (.cells #[.int .u8 (kk : Int)] 5)).alloc (.cells #[.bool false] 4) = W0 := ⟨_, rfl⟩
  have b9 : Blk W0 H [.int .u8 (kk : Int)] := by rw [← hW0, hH]; exact (Blk.new w [.int .u8 (kk : Int)] _).alloc _
  have b0 : Blk W0 (H + 1) [.bool false] := by rw [← hW0, hH]; exact Blk.new' (w.alloc _) [.bool false] _ (by simp)
  have hb0 : Below w.heap.size w W0 := by rw [← hW0]; exact ((Below.refl _ w).alloc (Nat.le_refl _) _).alloc (by simp) _
  have hs0 : W0.heap.size = H + 2 := by rw [← hW0, hH]; simp
  have HAW := Lib.hid awake14_any
  have HH := Lib.hid hH
  have HW0 := Lib.hid hW0
  have HS0 := Lib.hid hs0
  have B0 := Lib.hid (And.intro b0 (And.intro b9 hb0))
  have HR := Lib.hid hr
  have HL := Lib.hid hl
  have HKK := Lib.hid hkk
  have HEND := Lib.hid (show ∀ W, Below W0.heap.size W0 W → Below w.heap.size w (W.setCell ⟨H + 1, 0, none⟩ (.bool true)) ∧ (W.setCell ⟨H + 1, 0, none⟩ (.bool true)).cell? ⟨H + 1, 0, none⟩ = some (.bool true) from fun W hW =>
    ⟨(hb0.trans (hW.mono hb0.size)).setCell (p := ⟨H + 1, 0, none⟩) (by show _ ≤ H + 1; omega) _, ((b0.past hW).set 0 (.bool true)).cell (i := 0) rfl⟩)
  clear hW0 b9 b0 hb0 hs0 hH hr hl
  refine callsIn_of_wp_marks Try.func5 rfl trivial ?_ rfl
  simp only [Try.ntmps5, List.size_toArray, List.length_cons, List.length_nil, Nat.reduceAdd, Nat.reduceSub, Array.replicate_succ, Array.replicate_zero, List.push_toArray, List.append_toArray, List.nil_append, List.cons_append]
  by_cases h60 : n ≤ 60
  · have h60' : ¬ (60 : Int) < (n : Int) := by omega
    gi_wp2_with fail
    rw [← HH.out, HW0.out]
    gi_loopw [5] (fun i wr => ∃ k : Nat, k ≤ n ∧ i = .int .i64 (k : Int) ∧ wr = W0) (fun i _ => n - (intOf i).toNat)
    case atStart => exact ⟨0, Nat.zero_le _, rfl, rfl⟩
    case round =>
      obtain ⟨k, hk, rfl, rfl⟩ := hrel
      by_cases hlt : k < n
      · obtain ⟨p, hp⟩ : ∃ p, es[k]? = some p := ⟨_, List.getElem?_eq_getElem (by rw [HL.out]; exact hlt)⟩
        obtain ⟨a, A1, n1, c1, rfl, hab, hcl, -, -, -, -⟩ := (HR.out.below B0.out.2.2).at hp
        clear hp hab
        by_cases h3 : n1 ≤ 100
        · have h3' : ¬ (100 : Int) < (n1 : Int) := by omega
          gi_wp2
          go_roundw
          case rel => exact ⟨k + 1, by omega, by go_num, by simp⟩
          case measure => simp [intOf]; omega
        · have h3' : (100 : Int) < (n1 : Int) := by omega
          gi_wp2_with fail
          refine ⟨trivial, (callsIn_wide.2 (HAW.out wr)).mono ?_⟩
          rintro e w1 ⟨rfl, hb1⟩
          have b1 := B0.out.1.past hb1
          have x0 := b1.cell (i := 0) rfl
          have x1 := b1.frozen 0
          obtain ⟨f1, f2⟩ := HEND.out w1 hb1
          have F1 := Lib.hid f1
          clear hb1 b1 f1
          gi_wp2
          refine ⟨.bool true, ?_, rfl, F1.out⟩
          simp [results, Try.results5, go_sem, f2]
      · have hkn : k = n := by omega
        subst hkn
        have HTD := Lib.hid (mtold_any A k c es wr HL.out (by omega) hnc hc63 (HR.out.past B0.out.2.2))
        obtain ⟨keys, hkeys⟩ : ∃ keys, keys = es.map (·.2) := ⟨_, rfl⟩
        rw [← hkeys] at HTD
        have HKE := Lib.hid hkeys
        clear hkeys
        gi_wp2_with fail
        refine ⟨trivial, (callsIn_wide.2 HTD.out).mono ?_⟩
        rintro e w2 ⟨A2, n2, c2, rfl, hl2, hc2, hm2, hr2, hb2⟩
        obtain ⟨z, hz⟩ : ∃ z, z = (goK [] none keys).2.2.2 := ⟨_, rfl⟩
        rw [← hz]
        have HZ := Lib.hid hz
        clear hz
        obtain ⟨N, hN⟩ : ∃ N, N = w2.heap.size := ⟨_, rfl⟩
        have HB2 := Lib.hid (B0.out.2.2.trans (hb2.mono B0.out.2.2.size))
        have HP2 := Lib.hid (And.intro (B0.out.1.past hb2) (And.intro (B0.out.2.1.past hb2) (And.intro hl2 (And.intro hr2 hb2))))
        have hHN : H + 2 ≤ N := by rw [hN, ← HS0.out]; exact hb2.size
        have HNE := Lib.hid hN
        clear hl2 hr2 hb2 hN
        gi_wp2_with fail
        refine ⟨trivial, (callsIn_wide.2 (values_any A k c w2)).mono ?_⟩
        rintro e w' ⟨rfl, rfl⟩
        gi_wp2_with fail
        refine ⟨trivial, (callsIn_wide.2 (each_any _ rfl _)).mono ?_⟩
        rintro e w' ⟨rfl, rfl⟩
        simp only [World.size_alloc, ← HNE.out]
        have hq := fun W : World => run_eql_func14 (P := Try.prog) (w := W) Try.underlying44 (.func 29) #[] #[.pointer (some ⟨N + 1, 0, none⟩)]
        obtain ⟨W5, hW5⟩ : ∃ W5, ((((w2.alloc (.cells #[.slice A k c] 35)).alloc (.cells #[.func (.func 32) #[] #[.pointer (some ⟨N, 0, none⟩)]] 47)).alloc (.cells #[] 51)).alloc (.cells #[.slice (some ⟨N + 2, 0, none⟩) 0 0] 36)).alloc (.cells #[.int .i64 0] 28) = W5 := ⟨_, rfl⟩
        have hs5 : W5.heap.size = N + 5 := by rw [← hW5, HNE.out]; simp
        have hb5 : Below w2.heap.size w2 W5 := by rw [← hW5]; exact (((((Below.refl _ _).alloc (Nat.le_refl _) _).alloc (by simp) _).alloc (by simp; omega) _).alloc (by simp; omega) _).alloc (by simp; omega) _
        have g0 : Blk W5 N [.slice A k c] := by rw [← hW5, HNE.out]; exact ((((Blk.new w2 [.slice A k c] _).alloc _).alloc _).alloc _).alloc _
        have g1 : Blk W5 (N + 1) [.func (.func 32) #[] #[.pointer (some ⟨N, 0, none⟩)]] := by rw [← hW5, HNE.out]; exact (((Blk.new' (w2.alloc _) [_] _ (by simp)).alloc _).alloc _).alloc _
        have g3 : Blk W5 (N + 3) [.slice (some ⟨N + 2, 0, none⟩) 0 0] := by rw [← hW5, HNE.out]; exact (Blk.new' (((w2.alloc _).alloc _).alloc _) [_] _ (by simp)).alloc _
        have g4 : Blk W5 (N + 4) [.int .i64 0] := by rw [← hW5, HNE.out]; exact Blk.new' ((((w2.alloc _).alloc _).alloc _).alloc _) [_] _ (by simp)
        have g2 : W5.ownsRow (N + 2) 51 2 (.slice (some ⟨N + 2, 0, none⟩) 0 0) 0 (rvCells []) := by
          refine ⟨rfl, .inr ⟨N + 2, 0, #[], rfl, Nat.le_refl _, ?_, Nat.le_refl _, by decide, rfl, rfl⟩⟩
          rw [← hW5, HNE.out]
          refine (Below.heap_alloc _ _ _ (by simp)).trans ((Below.heap_alloc _ _ _ (by simp)).trans ?_)
          have := World.alloc_heap_new ((w2.alloc (.cells #[.slice A k c] 35)).alloc (.cells #[.func (.func 32) #[] #[.pointer (some ⟨w2.heap.size, 0, none⟩)]] 47)) (.cells #[] 51)
          simpa using this
        have hbw5 : Below w.heap.size w W5 := HB2.out.trans (hb5.mono HB2.out.size)
        have hk5 : KeysFn W5 H N (N + 1) (.func (.func 32) #[] #[.pointer (some ⟨N, 0, none⟩)]) es := ⟨g1, .inr ⟨rfl, A, k, c, HL.out, by omega, g0, by rw [HH.out]; exact HR.out.below hbw5⟩, by omega, by omega⟩
        have HG := Lib.hid (each_gives hk5 (by rw [HL.out]; omega))
        have HI0 := Lib.hid (show ∀ O : Nat → Prop, (∀ j, O j → N + 5 ≤ j) → MeI w H N kk O [] W5 from fun O hO => ⟨⟨_, 0, 0, [], ⟨g3, g2, (by simp [Value.ownBlock]), rfl, rfl, fun j e hO' => (by
          have e' : some (N + 2) = some j := e
          injection e' with e'
          rcases hO' with hO' | hO'
          · have := hO j hO'; omega
          · omega), fun i p r h => (by simp at h)⟩⟩, Nat.zero_le _, g4, HP2.out.1.past hb5, HP2.out.2.1.past hb5, hO, by omega, hbw5⟩)
        have HW5 := Lib.hid hW5
        have HS5 := Lib.hid hs5
        have HB5 := Lib.hid hbw5
        have HB25 := Lib.hid hb5
        clear hW5 hs5 hb5 g0 g1 g2 g3 g4 hbw5 hk5
        rw [← HKE.out] at HG
        gi_wp2_with fail
        simp only [← HNE.out]
        rw [HW5.out]
        simp only [Nat.add_assoc, Nat.reduceAdd]
        refine act_gen14 fun T hT => ?_
        have hs5 := HS5.out
        obtain ⟨Mid, hMid⟩ : ∃ Mid : Exit → Act → World → Prop, Mid = fun e a W1 => ∃ O : Nat → Prop, a = { T with defers := { target := .collected (N + 5), args := #[] } :: T.defers } ∧ O (N + 5) ∧ W1.heap[N + 5]? = some (.deferred (some [])) ∧ Below w2.heap.size w2 W1 ∧ ((e = .normal ∧ MeI w H N kk O (tellX keys) W1) ∨ (e = .exit 2 ∧ ∃ pre post, tellX keys = pre ++ post ∧ MeX w H N kk O pre W1)) := ⟨_, rfl⟩
        refine Go.wpIn_mono (Q := Mid) ?loop ?rest
        case loop =>
          refine Ru.range_gives (gf := 29) (lb := #[.pointer (some ⟨N + 1, 0, none⟩)]) (by rw [hT]; rfl) (Go.Proofs.enters_of Try.func29 (by kernel_rfl) rfl) HG.out (Below.refl _ _) (fun B O x av W h => by obtain ⟨A1, n1, c1, e, -⟩ := h; rw [e]; rfl)
            (fun k => k = N + 2 ∨ k = N + 3 ∨ k = N + 4) ?hS ?hM
            (MeI w H N kk) (fun cc O pre W' => cc = .exit 2 ∧ MeX w H N kk O pre W') (MeI.stays HH.out.symm hHN) (fun cc O O' s X Y hs ho hk => ⟨hs.1, MeX.stays HH.out.symm hHN O O' s X Y hs.2 ho hk⟩) ?hI0
            (fun O x a' W' => ∃ A1 n1 c1 R, a' = { tmps := (((T.tmps.setIfInBounds 44 (.agg #[.int .u32 (x.1.1 : Int), .slice A1 n1 c1])).setIfInBounds 45 (.int .i64 x.2)).setIfInBounds 11 (.pointer (some ⟨R, 0, none⟩))).setIfInBounds 12 (.int .i64 x.2), defers := [] } ∧ HdAt (N + 7) O x A1 n1 c1 R W')
            ?hAx ?assign ?body ?done ?stop
          case hS =>
            intro k hk
            refine ⟨by omega, ?_⟩
            rintro (h | h | h) <;> omega
          case hM =>
            rintro k (h | h | h) <;> omega
          case hI0 =>
            intro O hO
            exact HI0.out O (fun k hk => by have := hO k hk; omega)
          case hAx =>
            rintro O x a' W1 W2 ⟨A1, n1, c1, R, e, h⟩ ho
            exact ⟨A1, n1, c1, R, e, h.out ho (fun k hk => by rcases hk with h | h <;> omega)⟩
          case assign =>
            rintro O l' m pre x av W' K hO hOD hOD1 hv hI ho hK
            rw [hs5] at hv
            have hW7 : N + 5 + 2 ≤ W'.heap.size := by have := (hO _ hOD1).2; omega
            obtain ⟨A1, n1, c1, rfl, hd⟩ := hd_new hv hW7
            have HD := Lib.hid hd
            have HI2 := Lib.hid ((MeI.stays HH.out.symm hHN).below hI ((Below.refl _ _).alloc (Nat.le_refl _) (.cells #[.int .u32 (x.1.1 : Int), .slice A1 n1 c1] 51)))
            clear hd hv hI
            subst hT
            gi_wp2
            exact hK _ _ (Out.of_below ((Below.refl _ _).alloc (Nat.le_refl _) _)) HI2.out ⟨A1, n1, c1, _, rfl, HD.out⟩
          case body =>
            rintro O l' m pre x post a' W2 hX hO hOD hOD1 ho hI ⟨A1, n1, c1, R, rfl, hd⟩
            subst hT
            obtain ⟨z, hz⟩ : ∃ z, z = x.2 := ⟨_, rfl⟩
            obtain ⟨s, hs⟩ : ∃ s, s = x.1.1 := ⟨_, rfl⟩
            rw [← hz, ← hs]
            have HB0 := Lib.hid (show badL pre = 0 from badL_zero (tell_pre hX))
            obtain ⟨A7, n7, c7, vs, hx⟩ := hI.ex
            have t3 := hx.box.cell (i := 0) rfl
            have f3 := hx.box.frozen 0
            have t4 : W2.cell? ⟨N + 4, 0, none⟩ = some (.int .i64 0) := by rw [hI.bad.cell (i := 0) rfl, HB0.out]
            have f4 := hI.bad.frozen 0
            have r0 := hd.box.cell (i := 0) rfl
            have r1 := hd.box.cell (i := 1) rfl
            rw [← hs] at r0
            have hn7k : n7 ≤ kk := by rw [← hx.num]; exact hI.few
            have o3 : Out (fun k => k = N + 4) W2 (W2.setCell ⟨N + 4, 0, none⟩ (.int .i64 z)) := (Out.refl (fun k => k = N + 4) W2).setCell (p := ⟨N + 4, 0, none⟩) (.inl rfl) _
            have hx3 := hx.stay (O' := fun k => O k ∨ k = N + 4) (o3.more fun k _ e => .inr e) (fun k h => .inl h) (fun e => e.elim (fun e => by have := hI.low _ e; omega) (fun e => by omega))
            have t33 := hx3.box.cell (i := 0) rfl
            have f33 := hx3.box.frozen 0
            have bk3 := hI.arg.out o3 (by omega)
            have hd3 := hd.out o3 (fun k hk => by omega)
            have r03 := hd3.box.cell (i := 0) rfl
            have r13 := hd3.box.cell (i := 1) rfl
            rw [← hs] at r03
            simp only [List.setIfInBounds_toArray, List.set_cons_zero, List.set_cons_succ]
            by_cases hz0 : z = 0
            · obtain ⟨i0, hi0, hz0', hz1, hz2⟩ := info_parts mrow_info
              have hn7 : n7 + 1 ≤ 100000 := by omega
              have HMX := Lib.hid (show n7 + 1 ≤ maxLen by unfold maxLen; omega)
              have HXX := Lib.hid hx3
              have HD := Lib.hid hd3
              have HI2 := Lib.hid hI
              have HO := Lib.hid hO
              have HZ := Lib.hid (And.intro hz hz0)
              have HS := Lib.hid hs
              have HSZ := Lib.hid hI.size
              have HO3 := Lib.hid o3
              have HX := Lib.hid hX
              have HBK := Lib.hid bk3
              have HCE := Lib.hid (show ∀ u ∈ ([.int .u32 (s : Int), .slice A1 n1 c1] : List Value), u.oneCell' = true from fun u hu => by simp at hu; rcases hu with rfl | rfl <;> rfl)
              clear hx hd hI hO hz hs ho hX hOD hOD1 hx3 hd3 o3 bk3
              subst hz0
              clear HG HI0 hMid hq
              gi_wp2_with (gi_at_builtin
                           go_loud (refine wpListIn_append_both rfl (.tmp 51) (.tmp 53) 36 rfl (N + 2) 51 i0 _ 2 32 Try.underlying36 hi0 hz0' hz1 hz2 rfl (by decide) A7 n7 c7 _ rfl (HXX.out.own.alloc _) ⟨W2.heap.size, 0, none⟩ 1 1 [.int .u32 (s : Int), .slice A1 n1 c1] rfl rfl (two_lit (by simp)) HCE.out (by decide) HMX.out (by omega) (by rw [World.size_alloc]; have := HSZ.out; have := HO3.out.size; omega) ?_)
                           intro v6 w6 ho6 hg6 hn6 hfit6
                           refine Classical.byContradiction fun hcontra => ?_)
              obtain ⟨A8, d8, hv8, -⟩ := own_slice' ho6
              subst hv8
              obtain ⟨W3, hW3⟩ : ∃ W3, W3 = W2.setCell ⟨N + 4, 0, none⟩ (.int .i64 0) := ⟨_, rfl⟩
              have hba : Below W3.heap.size W3 (W3.alloc (.cells #[.int .u32 (s : Int), .slice A1 n1 c1] 51)) := (Below.refl _ _).alloc (Nat.le_refl _) _
              rw [hW3] at hba
              have hda := HD.out.out (.of_below hba) (T := fun _ => False) (fun k h => h.elim)
              have hxa := HXX.out.stay (O' := fun k => O k ∨ k = N + 4) (.of_below hba) (fun k h => .inl h) (fun e => e.elim (fun e => by have := HI2.out.low _ e; omega) (fun e => by omega))
              rw [HS.out] at ho6 hg6 hn6 hda hxa
              obtain ⟨hcol, hout⟩ := hxa.push (by omega) (RwAt.mk (fun a e => by have := hda.row.low a e; omega) hda.row.src hda.row.fit hda.row.len hda.row.cap hda.row.arcs) (fun h0 a e hO' => hO'.elim (hda.free h0 a e) (fun e' => by have := hda.row.low a e; omega)) hda.own (fun k hk => by
                have h1 := HO3.out.size
                have h2 := HSZ.out
                rw [World.size_alloc]
                rcases hk with hk | hk
                · have := (HO.out k hk).2; omega
                · omega) ho6 hg6 hn6
              have hall : Out (fun k => k = N + 4 ∨ k = N + 3 ∨ (N + 2 ≤ k ∧ ¬ O k)) W2 (w6.setCell ⟨N + 3, 0, none⟩ (.slice A8 (n7 + 1) d8)) := by
                have h2 := Out.of_below (S := fun _ => False) hba
                rw [HS.out] at h2
                exact ((HO3.out.more fun k _ e => .inl e).trans (h2.more fun k _ e => e.elim)).trans (hout.more fun k _ e => e.elim (fun e => .inr (.inl e)) (fun e => .inr (.inr ⟨e.1, fun h => e.2 (.inl h)⟩)))
              have hgx : goodL (pre ++ [x]) = goodL pre ++ [x.1] := by rw [goodL_snoc, if_pos HZ.out.1.symm]
              have hbx : badL (pre ++ [x]) = 0 := by rw [badL_snoc]; exact HZ.out.1.symm
              have hbad : Blk (w6.setCell ⟨N + 3, 0, none⟩ (.slice A8 (n7 + 1) d8)) (N + 4) [.int .i64 0] := by
                have hb4 := Blk.alloc (HI2.out.bad.set 0 (.int .i64 0)) (.cells #[.int .u32 (x.1.1 : Int), .slice A1 n1 c1] 51)
                refine hb4.out hout ?_
                rintro (h | h)
                · omega
                · exact h.2 (.inr rfl)
              have harg : Blk (w6.setCell ⟨N + 3, 0, none⟩ (.slice A8 (n7 + 1) d8)) H [.int .u8 (kk : Int)] := HI2.out.arg.out hall (by omega)
              have hnum : (goodL (pre ++ [x])).length = n7 + 1 := by rw [hgx, List.length_append, HXX.out.num]; rfl
              have FIN := Lib.hid (show Out (Ru.SO (fun k => k = N + 2 ∨ k = N + 3 ∨ k = N + 4) W5.heap.size O) W2 (w6.setCell ⟨N + 3, 0, none⟩ (.slice A8 (n7 + 1) d8)) ∧ (n7 + 1 ≤ kk → MeI w H N kk O (pre ++ [x]) (w6.setCell ⟨N + 3, 0, none⟩ (.slice A8 (n7 + 1) d8))) ∧ (n7 + 1 = kk + 1 → MeX w H N kk O (pre ++ [x]) (w6.setCell ⟨N + 3, 0, none⟩ (.slice A8 (n7 + 1) d8))) from by
                have hbl : Below w.heap.size w (w6.setCell ⟨N + 3, 0, none⟩ (.slice A8 (n7 + 1) d8)) := HI2.out.out.trans (hall.below (fun k _ hk => by have := HH.out; omega) HI2.out.out.size)
                refine ⟨hall.more fun k _ hk => ?_, fun hf => ⟨⟨_, _, _, _, by rw [hgx]; exact hcol⟩, by omega, by rw [hbx]; exact hbad, HI2.out.res.out hall (by omega), harg, HI2.out.low, Nat.le_trans HI2.out.size hall.size, hbl⟩, fun hf => ⟨⟨_, _, _, _, by rw [hgx]; exact hcol⟩, by omega, ?_, hbad, HI2.out.res.out hall (by omega), harg, HI2.out.low, Nat.le_trans HI2.out.size hall.size, hbl⟩⟩
                · unfold Ru.SO
                  rw [HS5.out]
                  rcases hk with h | h | ⟨h, h'⟩
                  · exact .inl (.inr (.inr h))
                  · exact .inl (.inr (.inl h))
                  · rcases Nat.lt_or_ge k (N + 5) with h5 | h5
                    · exact .inl (by omega)
                    · exact .inr ⟨h5, h'⟩
                · intro y hy
                  rcases List.mem_append.1 hy with h | h
                  · exact tell_pre HX.out y h
                  · rw [List.mem_singleton.1 h]; exact HZ.out.1.symm)
              have e7 := hcol.box.cell (i := 0) rfl
              have e9 := harg.cell (i := 0) rfl
              have hb6 : Blk w6 (N + 3) [.slice A7 n7 c7] := hxa.box.grown hg6 (fun e => by have := (hxa.own.lt _ e).1; exact hxa.off e)
              have e8 := hb6.cell (i := 0) rfl
              have y8 := hb6.frozen 0
              clear ho6 hg6 hn6 hfit6 hba hda hxa hcol hout hb6 r0 r1 t3 f3 t4 f4 hall hgx hbx hbad harg hnum hW3 t33 f33 r03 r13
              apply hcontra
              clear hcontra
              by_cases hbk : n7 + 1 ≤ kk
              · have hbk' : ¬ (kk : Int) < (n7 : Int) + 1 := by omega
                gi_wp2
                first
                  | exact ⟨FIN.out.1, FIN.out.2.1 hbk⟩
                  | (have f := FIN.out.1; rw [HS5.out] at f; exact ⟨f, FIN.out.2.1 hbk⟩)
              · have hbk' : (kk : Int) < (n7 : Int) + 1 := by omega
                gi_wp2
                first
                  | exact ⟨FIN.out.1, rfl, FIN.out.2.2 (by omega)⟩
                  | (have f := FIN.out.1; rw [HS5.out] at f; exact ⟨f, rfl, FIN.out.2.2 (by omega)⟩)
            · have hx0 := tell_bad (keys := keys) (x := x) (by rw [hX]; simp) (by rw [← hz]; exact hz0)
              have hs0 : s = 0 := by rw [hs, hx0]
              have hn0 : n1 = 0 := by have := hd.row.len; rw [hx0] at this; exact this.symm
              subst hs0 hn0
              have d0 : (z == 0) = false := by simp [hz0]
              have FIN := Lib.hid (show Out (Ru.SO (fun k => k = N + 2 ∨ k = N + 3 ∨ k = N + 4) W5.heap.size O) W2 (W2.setCell ⟨N + 4, 0, none⟩ (.int .i64 z)) ∧ MeI w H N kk O (pre ++ [x]) (W2.setCell ⟨N + 4, 0, none⟩ (.int .i64 z)) from by
                have hgx : goodL (pre ++ [x]) = goodL pre := by rw [goodL_snoc, if_neg (by rw [← hz]; exact hz0)]
                have hbx : badL (pre ++ [x]) = z := by rw [badL_snoc]; exact hz.symm
                refine ⟨o3.more fun k _ h => .inl (.inr (.inr h)), ⟨_, _, _, _, by rw [hgx]; exact hx3⟩, by rw [hgx]; exact hI.few, by rw [hbx]; exact hI.bad.set 0 _, hI.res.out o3 (by omega), bk3, hI.low, Nat.le_trans hI.size o3.size, hI.out.trans (o3.below (fun k _ hk => by have := HH.out; omega) hI.out.size)⟩)
              have bkc := bk3.cell (i := 0) rfl
              have hbk' : ¬ (kk : Int) < (n7 : Int) := by omega
              clear hx hd hI hO hz hs ho hX hOD hOD1 hx3 hd3 o3 bk3 hx0 HG HI0 hMid hq
              gi_wp2
              first
                | exact FIN.out
                | (have f := FIN.out; rw [HS5.out] at f; exact f)
          case done =>
            rintro O D W1 hO hD hOD ho hI hK
            have hD5 : D = N + 5 := by rw [hD, hs5]
            subst hD5
            rw [hMid]
            exact ⟨O, rfl, hOD, hK, HB25.out.trans (ho.below (fun k _ hk => by have := HNE.out; omega) HB25.out.size), .inl ⟨rfl, hI⟩⟩
          case stop =>
            rintro O D cc pre post W1 hO hD hOD ho hX ⟨rfl, hI⟩ hK
            have hD5 : D = N + 5 := by rw [hD, hs5]
            subst hD5
            refine wpIn_exit ?_
            rw [hMid]
            exact ⟨O, rfl, hOD, hK, HB25.out.trans (ho.below (fun k _ hk => by have := HNE.out; omega) HB25.out.size), .inr ⟨rfl, pre, post, hX, hI⟩⟩
        case rest =>
          intro e a W1 hm
          rw [hMid] at hm
          obtain ⟨O, rfl, hOD, hK, hbl, hcase⟩ := hm
          subst hT
          have hs5 := HS5.out
          have HK := Lib.hid hK
          have hlt := (Array.getElem?_eq_some_iff.1 hK).1
          have HSM := Lib.hid (toldR_small keys (by rw [HKE.out, List.length_map, HL.out]; omega))
          have HR2 := Lib.hid (HP2.out.2.2.2.1.past hbl)
          have HBL := Lib.hid hbl
          have hl2 := HP2.out.2.2.1
          have HFIN := Lib.hid (show ∀ W, Below W1.heap.size W1 W → (W.setCell ⟨H + 1, 0, none⟩ (.bool true)).heap[N + 5]? = some (.deferred (some [])) ∧ ((W.setCell ⟨H + 1, 0, none⟩ (.bool true)).putObj (N + 5) (.deferred none)).cell? ⟨H + 1, 0, none⟩ = some (.bool true) ∧ Below w.heap.size w ((W.setCell ⟨H + 1, 0, none⟩ (.bool true)).putObj (N + 5) (.deferred none)) from fun W hW => by
            have hwr : Below wr.heap.size wr W := (HP2.out.2.2.2.2.trans (hbl.mono HP2.out.2.2.2.2.size)).trans (hW.mono (HP2.out.2.2.2.2.trans (hbl.mono HP2.out.2.2.2.2.size)).size)
            obtain ⟨hbx, r0⟩ := HEND.out W hwr
            have hH1 := World.block_lt_of_cell? _ _ r0
            have hHw := HH.out
            refine ⟨?_, (cell_past (grownBy_putObj' _ (N + 5) (.deferred none)) hH1 (fun e => by injection e with e; have e : N + 5 = H + 1 := e; omega)).trans r0, hbx.grown (grownBy_putObj' _ (N + 5) _) hbx.size (fun j e => by cases e; omega)⟩
            rw [Below.heap_setCell _ _ _ _ (show N + 5 ≠ H + 1 by omega), hW.block (N + 5) hlt]
            exact hK)
          clear hK hMid HG HI0 hbl
          rcases hcase with ⟨rfl, hI⟩ | ⟨rfl, pre, post, hX, hI⟩
          · obtain ⟨hg1, hg2⟩ := goodL_all keys
            rw [← HZ.out] at hg2
            obtain ⟨A7, n7, c7, vs, hx⟩ := hI.ex
            rw [hg1] at hx
            have h72 : n7 = n2 := by rw [← hx.num]; exact hl2
            subst h72
            have HR7 := Lib.hid (hx.rowsAt (lo := H) (by omega) (by omega))
            have t3 := hx.box.cell (i := 0) rfl
            have hn7k : n7 ≤ kk := by rw [← hx.num, ← hg1]; exact hI.few
            have hk' : ¬ (kk : Int) < (n7 : Int) := by omega
            have tk := hI.arg.cell (i := 0) rfl
            have hbad := hI.bad
            rw [hg2] at hbad
            have HXX := Lib.hid hx
            have HI := Lib.hid hI
            have HBD := Lib.hid hbad
            have hq2 := fun W : World => run_neq_func14 (P := Try.prog) (w := W) Try.underlying44 (.func 29) #[] #[.pointer (some ⟨W1.heap.size + 1, 0, none⟩)]
            clear hx hI hg1 hg2 hl2 hbad
            gi_wp2_with fail
            refine ⟨trivial, (callsIn_wide.2 (each_any _ rfl _)).mono ?_⟩
            rintro e w' ⟨rfl, rfl⟩
            simp only [World.size_alloc]
            gi_wp2_with fail
            obtain ⟨M, hM⟩ : ∃ M, M = W1.heap.size := ⟨_, rfl⟩
            rw [← hM]
            obtain ⟨W6, hW6⟩ : ∃ W6, (W1.alloc (.cells #[.int .i64 0] 3)).alloc (.cells #[.nilFunc] 47) = W6 := ⟨_, rfl⟩
            have hs6 : W6.heap.size = M + 2 := by rw [← hW6, hM]; simp
            have hb6 : Below W1.heap.size W1 W6 := by rw [← hW6]; exact ((Below.refl _ _).alloc (Nat.le_refl _) _).alloc (by simp) _
            have g0 : Blk W6 M [.int .i64 0] := by rw [← hW6, hM]; exact (Blk.new W1 [.int .i64 0] _).alloc _
            have g1 : Blk W6 (M + 1) [.nilFunc] := by rw [← hW6, hM]; exact Blk.new' (W1.alloc _) [.nilFunc] _ (by simp)
            have HG6 := Lib.hid (each_gives (w0 := W6) (hi := 0) (Bs := 0) (Bk := M + 1) (f := .nilFunc) (es := []) ⟨g1, .inl ⟨rfl, rfl⟩, by omega, by omega⟩ (by simp))
            have HT0 := Lib.hid (show tellX (([] : List Pc).map (·.2)) = [] from rfl)
            rw [hW6]
            have HG0 := Lib.hid g0
            have HB6 := Lib.hid hb6
            have HME := Lib.hid hM
            have hM7 : N + 5 < M := by rw [hM]; exact hlt
            clear hW6 hb6 g0 g1 hq hq2 hM
            refine act_gen14 fun T hT => ?_
            obtain ⟨Mid, hMid⟩ : ∃ Mid : Exit → Act → World → Prop, Mid = fun e a W7 => e = .normal ∧ a = { T with defers := { target := .collected (M + 2), args := #[] } :: T.defers } ∧ W7.heap[M + 2]? = some (.deferred (some [])) ∧ Below W6.heap.size W6 W7 := ⟨_, rfl⟩
            refine Go.wpIn_mono (Q := Mid) ?loop2 ?rest2
            case loop2 =>
              refine Ru.range_gives (gf := 29) (lb := #[.pointer (some ⟨M + 1, 0, none⟩)]) (by rw [hT]; rfl) (Go.Proofs.enters_of Try.func29 (by kernel_rfl) rfl) HG6.out (Below.refl _ _) (fun B O x av W h => by obtain ⟨A1, n1, c1, e, -⟩ := h; rw [e]; rfl)
                (fun _ => False) (fun _ h => h.elim) ?hM2 (fun _ _ _ => True) (fun _ _ _ _ => False) (fun _ _ _ _ _ _ _ _ => trivial) (fun _ _ _ _ _ _ h _ _ => h) (fun _ _ => trivial) (fun _ _ _ _ => True) (fun _ _ _ _ _ _ _ => trivial) ?assign2 ?body2 ?done2 ?stop2
              case hM2 =>
                rintro k (h | h | h) <;> omega
              case assign2 =>
                rintro O l' m pre x av W' K hO hOD hOD1 hv hI ho hK
                gi_wp2
                exact hK _ _ (Out.refl _ _) trivial trivial
              case body2 =>
                rintro O l' m pre x post a' W2 hX
                rw [HT0.out] at hX
                have := congrArg List.length hX
                simp at this
              case done2 =>
                rintro O D W7 hO hD hOD ho hI hK
                have hD2 : D = M + 2 := by rw [hD, hs6]
                subst hD2
                rw [hMid]
                exact ⟨rfl, rfl, hK, ho.below (fun k _ h => h.elim) (Nat.le_refl _)⟩
              case stop2 =>
                rintro O D cc pre post W7 hO hD hOD ho hX hI hK
                exact hI.elim
            case rest2 =>
              intro e a W7 hm
              rw [hMid] at hm
              obtain ⟨rfl, rfl, hK7, hb7⟩ := hm
              subst hT
              have hb17 : Below W1.heap.size W1 W7 := HB6.out.trans (hb7.mono HB6.out.size)
              have HS := Lib.hid (msame_any A7 A2 n7 c7 c2 (toldR keys) W7 HXX.out.num (by omega) HSM.out (HR7.out.past hb17) (HR2.out.past hb17))
              have t3 := (HXX.out.box.past hb17).cell (i := 0) rfl
              have HB7 := Lib.hid (show Below W6.heap.size W6 W7 from hb7)
              have hlt7 := (Array.getElem?_eq_some_iff.1 hK7).1
              have HFIN2 := Lib.hid (show ∀ W, Below W7.heap.size W7 W → (W.setCell ⟨H + 1, 0, none⟩ (.bool true)).heap[M + 2]? = some (.deferred (some [])) ∧ ((W.setCell ⟨H + 1, 0, none⟩ (.bool true)).putObj (M + 2) (.deferred none)).heap[N + 5]? = some (.deferred (some [])) ∧ (((W.setCell ⟨H + 1, 0, none⟩ (.bool true)).putObj (M + 2) (.deferred none)).putObj (N + 5) (.deferred none)).cell? ⟨H + 1, 0, none⟩ = some (.bool true) ∧ Below w.heap.size w (((W.setCell ⟨H + 1, 0, none⟩ (.bool true)).putObj (M + 2) (.deferred none)).putObj (N + 5) (.deferred none)) from fun W hW => by
                obtain ⟨k1, k2, k3⟩ := HFIN.out W (hb17.trans (hW.mono hb17.size))
                have hHw := HH.out
                obtain ⟨W8, hW8⟩ : ∃ W8, W8 = W.setCell ⟨H + 1, 0, none⟩ (.bool true) := ⟨_, rfl⟩
                have m1 : W8.heap[M + 2]? = some (.deferred (some [])) := by
                  rw [hW8, Below.heap_setCell _ _ _ _ (show M + 2 ≠ H + 1 by omega), hW.block (M + 2) hlt7]
                  exact hK7
                rw [← hW8] at k1 k2 k3 ⊢
                have e1 : W8.cell? ⟨H + 1, 0, none⟩ = some (.bool true) := by
                  have hwr : Below wr.heap.size wr W := ((HP2.out.2.2.2.2.trans (HBL.out.mono HP2.out.2.2.2.2.size)).trans (hb17.mono (HP2.out.2.2.2.2.trans (HBL.out.mono HP2.out.2.2.2.2.size)).size)).trans (hW.mono ((HP2.out.2.2.2.2.trans (HBL.out.mono HP2.out.2.2.2.2.size)).trans (hb17.mono (HP2.out.2.2.2.2.trans (HBL.out.mono HP2.out.2.2.2.2.size)).size)).size)
                  rw [hW8]
                  exact (HEND.out W hwr).2
                have eb : Below w.heap.size w W8 := by
                  have hwr : Below wr.heap.size wr W := ((HP2.out.2.2.2.2.trans (HBL.out.mono HP2.out.2.2.2.2.size)).trans (hb17.mono (HP2.out.2.2.2.2.trans (HBL.out.mono HP2.out.2.2.2.2.size)).size)).trans (hW.mono ((HP2.out.2.2.2.2.trans (HBL.out.mono HP2.out.2.2.2.2.size)).trans (hb17.mono (HP2.out.2.2.2.2.trans (HBL.out.mono HP2.out.2.2.2.2.size)).size)).size)
                  rw [hW8]
                  exact (HEND.out W hwr).1
                have hH1 := World.block_lt_of_cell? _ _ e1
                have e2 : (W8.putObj (M + 2) (.deferred none)).cell? ⟨H + 1, 0, none⟩ = some (.bool true) := (cell_past (grownBy_putObj' _ (M + 2) (.deferred none)) hH1 (fun e => by injection e with e; have e : M + 2 = H + 1 := e; omega)).trans e1
                have eb2 : Below w.heap.size w (W8.putObj (M + 2) (.deferred none)) := eb.grown (grownBy_putObj' _ (M + 2) _) eb.size (fun j e => by cases e; omega)
                have hH2 := World.block_lt_of_cell? _ _ e2
                refine ⟨m1, ?_, (cell_past (grownBy_putObj' _ (N + 5) (.deferred none)) hH2 (fun e => by injection e with e; have e : N + 5 = H + 1 := e; omega)).trans e2, eb2.grown (grownBy_putObj' _ (N + 5) _) eb2.size (fun j e => by cases e; omega)⟩
                exact (World.putObj_heap_other (by omega)).trans k1)
              have hb01 := hb7
              have g07 := Lib.hid (HG0.out.past hb7)
              clear hK7 hb7 hb01 hlt7 hMid HG6
              gi_wp2_with fail
              refine ⟨trivial, (callsIn_wide.2 HS.out).mono ?_⟩
              rintro e W8 ⟨rfl, hb8⟩
              have hb18 : Below W1.heap.size W1 W8 := hb17.trans (hb8.mono hb17.size)
              have t4 := (HBD.out.past hb18).cell (i := 0) rfl
              have tM := (g07.out.past hb8).cell (i := 0) rfl
              have d0 : (z == z) = true := by simp
              have HB8 := Lib.hid hb8
              have HB17 := Lib.hid hb17
              clear hb8 hb18 hb17 t3
              gi_wp2_with fail
              refine ⟨trivial, (callsIn_wide.2 (HAW.out W8)).mono ?_⟩
              rintro e W9 ⟨rfl, hb9⟩
              have hb79 : Below W7.heap.size W7 W9 := HB8.out.trans (hb9.mono HB8.out.size)
              have hb19 : Below W1.heap.size W1 W9 := HB17.out.trans (hb79.mono HB17.out.size)
              have x0 := (HI.out.res.past hb19).cell (i := 0) rfl
              have x1 := (HI.out.res.past hb19).frozen 0
              have FIN := Lib.hid (HFIN2.out W9 hb79)
              clear hb9 hb79 hb19 t4 tM
              gi_wp2
              refine ⟨by simp, .inl ⟨_, _, rfl, run_takeDeferred FIN.out.1, ?_⟩⟩
              refine ⟨by simp, .inl ⟨_, _, rfl, run_takeDeferred FIN.out.2.1, ?_⟩⟩
              refine ⟨.bool true, ?_, rfl, FIN.out.2.2.2⟩
              have r0 := FIN.out.2.2.1
              simp [results, Try.results5, go_sem, r0]
          · obtain ⟨A7, n7, c7, vs, hx⟩ := hI.ex
            have hn7k : n7 = kk + 1 := by rw [← hx.num]; exact hI.few
            subst hn7k
            have t3 := hx.box.cell (i := 0) rfl
            have tk := hI.arg.cell (i := 0) rfl
            obtain ⟨hgt, hgl⟩ := goodL_take hX hI.zero
            rw [hI.few] at hgt hgl
            rw [hl2] at hgl
            have HR7 := Lib.hid (hx.rowsAt (lo := H) (by omega) (by omega))
            have HR2t := Lib.hid (show RowsAt W1 wr.heap.size W1.heap.size A2 (goodL pre) from by rw [hgt]; exact HR2.out.take _)
            have HS := Lib.hid (fun W (hW : Below W1.heap.size W1 W) => msame_any A7 A2 (kk + 1) c7 c2 (goodL pre) W hI.few (by omega) (fun r hr => HSM.out r (by rw [hgt] at hr; exact List.mem_of_mem_take hr)) (HR7.out.past hW) (HR2t.out.past hW))
            have HXX := Lib.hid hx
            have HI := Lib.hid hI
            have HX := Lib.hid hX
            have hk' : (kk : Int) < (kk : Int) + 1 := by omega
            have hk2 : (kk : Int) < (n2 : Int) := by omega
            have hkc : (kk : Int) + 1 ≤ (c2 : Int) := by omega
            have hk0 : (0 : Int) ≤ (kk : Int) + 1 := by omega
            have hw1 : IntKind.i64.wrap (kk : Int) = (kk : Int) := by first | go_num | (rw [IntKind.wrap_i64]; omega)
            have hw2 : IntKind.i64.wrap ((kk : Int) + 1) = (kk : Int) + 1 := by first | go_num | (rw [IntKind.wrap_i64]; omega)
            clear hx hI hX hgt hl2 HR7 HR2t
            gi_wp2_with fail
            refine wpIn_wide.2 ?_
            refine Gw.wp_region_tail (tail := [_]) 21 (meG H N n2 c2 kk c7 A2 A7) [74, 75, 76, 77, 78, 79, 80, 81, 82, 83, 84, 85, 86, 87, 88, 89, 90, 91, 92, 93, 94] [([10], none), ([74], none), ([75], none), ([6, 76], some (76, true)), ([77, 76], some (76, true)), ([3, 76], some (76, true)), ([79, 76], some (76, true)), ([78, 80, 76], some (76, true)), ([76, 81], none), ([82], none), ([9, 83], some (83, true)), ([6, 83], some (83, true)), ([3, 83], some (83, true)), ([86, 83], some (83, true)), ([87, 83], some (83, true)), ([85, 88, 83], some (83, true)), ([84, 89, 83], some (83, true)), ([83, 90], none), ([91], none), ([92], some (92, true)), ([92, 93], none)] 118 (by kernel_rfl) (by kernel_rfl) rfl ?h0 ?hreq rfl ?hend
            case h0 =>
              intro t W hnd _
              unfold meG
              split <;> first | rfl | trivial | exact absurd (by simp) hnd
            case hreq =>
              refine ⟨?_, ?_, ?_, ?_, ?_, ?_, ?_, ?_, ?_, ?_, ?_, ?_, ?_, ?_, ?_, ?_, ?_, ?_, ?_, ?_, ?_, trivial⟩
              all_goals
                intro ac W hg hk
                have hg' : Below W1.heap.size W1 W := hg
                have z3 := (HXX.out.box.past hg').cell (i := 0) rfl
                have zk := (HI.out.arg.past hg').cell (i := 0) rfl
                have z4 := (HI.out.bad.past hg').cell (i := 0) rfl
                simp only [Gw.Knows, meG] at hk
                try (simp [go_sem, Gw.OpReq, Gw.Ok, Gw.Post, Gw.Holds, meG, Gw.Grows.refl, hk, z3, z4, zk, hk2, hkc, hk0, hw1, hw2]; done)
              · simp [go_sem, Gw.OpReq, Gw.Ok, Gw.Post, Gw.Holds, meG, Gw.Grows.refl, hk]
                refine (HS.out W hg').mono ?_
                rintro e W' ⟨rfl, hb3⟩
                exact ⟨_, rfl, hb3, fun _ _ => rfl⟩
              · simp [go_sem, Gw.OpReq, Gw.Ok, Gw.Post, Gw.Holds, meG, Gw.Grows.refl, hk]
                refine (HAW.out W).mono ?_
                rintro e W' ⟨rfl, hb3⟩
                exact ⟨_, rfl, hb3, fun _ _ => rfl⟩
            case hend =>
              intro v w3 hg hv
              have v94 := (hv 94 (by simp)).now
              simp only [meG] at v94
              simp only [Gw.putAll, Act.put, List.setIfInBounds_toArray, List.set_cons_zero, List.set_cons_succ]
              rw [v94]
              have hg' : Below W1.heap.size W1 w3 := hg
              have x0 := (HI.out.res.past hg').cell (i := 0) rfl
              have x1 := (HI.out.res.past hg').frozen 0
              have FIN := Lib.hid (HFIN.out w3 hg')
              clear hv hg hg' v94 HFIN HS
              simp only [Gw.seqTail]
              go_wp2
              gi_wp2
              refine ⟨by simp, .inl ⟨_, _, rfl, run_takeDeferred FIN.out.1, ?_⟩⟩
              refine ⟨.bool true, ?_, rfl, FIN.out.2.2⟩
              have r0 := FIN.out.2.1
              simp [results, Try.results5, go_sem, r0]
  · have h60' : (60 : Int) < (n : Int) := by omega
    gi_wp2_with fail
    rw [← HH.out, HW0.out]
    refine ⟨trivial, (callsIn_wide.2 (HAW.out W0)).mono ?_⟩
    rintro e w1 ⟨rfl, hb1⟩
    have b1 := B0.out.1.past hb1
    have x0 := b1.cell (i := 0) rfl
    have x1 := b1.frozen 0
    obtain ⟨f1, f2⟩ := HEND.out w1 hb1
    have F1 := Lib.hid f1
    clear hb1 b1 f1
    gi_wp2
    refine ⟨.bool true, ?_, rfl, F1.out⟩
    simp [results, Try.results5, go_sem, f2]
end Go.Proofs.Ytniffijjdehnaaa
