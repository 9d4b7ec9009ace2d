/- merge.Rows: all rows of keys. -/
import Derived.Test.YtniffijjdehnaaaMmJ
import Derived.Test.YtniffijjdehnaaaMkT
namespace Go.Proofs.Ytniffijjdehnaaa
open Go.RowKit Me Tx Ed Mg Va

theorem goK_keys (keys : List (List UInt8)) : keysG [] none keys = if (goK [] none keys).2.2.2 = 0 then ((goK [] none keys).2.1, 0) else ([], (goK [] none keys).2.2.2) := keysG_go keys [] none
/-- The rows that are told, where no key has an error. -/
theorem tell_good {keys : List (List UInt8)} {pre post : List TellR} {x : TellR} (h : tellX keys = pre ++ x :: post) (hx : x.2 ≠ 0) : keysG [] none keys = ([], x.2) ∧ post = [] := by
  unfold tellX tellQ at h
  rw [goK_keys]
  split at h
  · rename_i h0
    have hm : x ∈ (rowM (goK [] none keys).2.1).map (fun r => ((r, 0) : TellR)) := by rw [h]; simp
    obtain ⟨r, -, hr⟩ := List.mem_map.1 hm
    rw [← hr] at hx
    exact absurd rfl hx
  · rename_i h0
    rw [if_neg h0]
    rcases List.eq_nil_or_concat post with hp | ⟨q, y, hp⟩
    · subst hp
      have h1 := List.append_inj_right' h rfl
      injection h1 with h1
      rw [← h1]
      exact ⟨rfl, rfl⟩
    · exfalso
      rw [hp] at h
      have h1 : told (goK [] none keys).2.1 = pre ++ x :: q := by
        have h2 : told (goK [] none keys).2.1 ++ [((0, []), (goK [] none keys).2.2.2)] = (pre ++ x :: q) ++ [y] := by rw [h]; simp
        exact List.append_inj_left' h2 rfl
      have hm : x ∈ told (goK [] none keys).2.1 := by rw [h1]; simp
      unfold told at hm
      obtain ⟨r, -, hr⟩ := List.mem_map.1 hm
      rw [← hr] at hx
      exact hx rfl
theorem tell_all {keys : List (List UInt8)} (h : ∀ x ∈ tellX keys, x.2 = 0) : ∃ rows, keysG [] none keys = (rows, 0) ∧ (tellX keys).map Prod.fst = rowM rows := by
  rw [goK_keys]
  unfold tellX tellQ at h ⊢
  by_cases h0 : (goK [] none keys).2.2.2 = 0
  · rw [if_pos h0] at h ⊢
    rw [if_pos h0]
    refine ⟨_, rfl, ?_⟩
    rw [List.map_map]
    exact List.map_id' _
  · rw [if_neg h0] at h
    have := h _ (List.mem_append_right _ (List.mem_singleton.2 rfl))
    exact absurd this h0
theorem goK_len : ∀ (l : List (List UInt8)) (rows : List RowR) (last : Option EdD), (goK rows last l).2.1.length ≤ rows.length + l.length
  | [], rows, last => Nat.le_refl _
  | b :: l, rows, last => by
    rw [goK]
    split
    · have h1 := goK_len l (addR (edB b) rows) (some (edB b))
      have h2 := addR_length (edB b) rows
      rw [List.length_cons]
      show (goK _ _ l).2.1.length ≤ _
      omega
    · exact Nat.le_add_right _ _
theorem tell_len (keys : List (List UInt8)) : (tellX keys).length ≤ keys.length + 1 := by
  have h := goK_len keys [] none
  unfold tellX tellQ
  split
  · rw [List.length_map, rowM_length]; simp at h; omega
  · unfold told
    rw [List.length_append, List.length_map, rowM_length, List.length_tail]
    simp at h
    show _ + 1 ≤ _
    omega
/-- Where a row is collected. -/
structure RsI (H : Nat) (w : World) (O : Nat → Prop) (pre : List TellR) (W : World) : Prop where
  ex : ∃ A n c vs, ColX O (H + 5) (H + 5) (H + 2) (pre.map Prod.fst) W A n c vs
  zero : ∀ x ∈ pre, x.2 = 0
  low : ∀ k, O k → H + 5 ≤ k
  b0 : Blk W H [.slice none 0 0]
  b1 : Blk W (H + 1) [.int .i64 0]
  size : H + 5 ≤ W.heap.size
  out : Below w.heap.size w W
theorem RsI.stays {H : Nat} {w : World} (hH : w.heap.size = H) : Ru.Stays (RsI H w) := by
  intro O O' pre W W' h ho hk
  obtain ⟨A, n, c, vs, hx⟩ := h.ex
  have hs5 := h.size
  refine ⟨⟨A, n, c, vs, hx.stay ho hk (fun e => by have := h.low _ e; omega)⟩, h.zero, fun k e => (hk k e).elim (h.low k) (fun e => by omega), h.b0.out ho (fun e => by have := h.low _ e; omega), h.b1.out ho (fun e => by have := h.low _ e; omega), Nat.le_trans hs5 ho.size, ?_⟩
  exact h.out.trans (ho.below (fun k _ e => by have := h.low k e; omega) h.out.size)
/-- A row that has been handed on, in memory. -/
structure HdAt (lo : Nat) (O : Nat → Prop) (x : TellR) (A1 : Option Addr) (n1 c1 : Nat) (R : Nat) (W : World) : Prop where
  row : RwAt W lo W.heap.size (x.1.1, A1, n1, c1) x.1
  free : 0 < x.1.2.length → ∀ a, A1 = some a → ¬ O a.block
  own : ∃ l, W.ownsRow l 59 2 (.slice A1 n1 c1) n1 (arcCells x.1.2)
  box : Blk W R [.int .u32 (x.1.1 : Int), .slice A1 n1 c1]
  low : lo ≤ R
theorem own_addr {W : World} {l n1 c1 k : Nat} {e : TypeId} {size : Nat} {A1 : Option Addr} {xs : List Value} (h : W.ownsRow l e size (.slice A1 n1 c1) n1 xs) (hk : (Value.slice A1 n1 c1).ownBlock = some k) : ∃ a, A1 = some a ∧ a.block = k := by
  rcases h.2 with ⟨e, -⟩ | ⟨g, cap, cur, e, -⟩
  · rw [e] at hk; cases hk
  · injection e with e1 e2 e3
    subst e1
    injection hk with hk
    exact ⟨_, rfl, hk⟩
theorem HdAt.out {lo : Nat} {O T : Nat → Prop} {x : TellR} {A1 : Option Addr} {n1 c1 R : Nat} {W W' : World} (h : HdAt lo O x A1 n1 c1 R W) (ho : Out T W W') (hT : ∀ k, T k → k < lo) : HdAt lo O x A1 n1 c1 R W' := by
  obtain ⟨l, hl⟩ := h.own
  refine ⟨h.row.out ho hT, h.free, ⟨l, own_out hl ho fun k hk e => ?_⟩, h.box.out ho (fun e => by have := hT _ e; have := h.low; omega), h.low⟩
  obtain ⟨a, ha, hb⟩ := own_addr hl hk
  have := h.row.low a ha
  have := hT k e
  omega
theorem hd_new {lo : Nat} {O : Nat → Prop} {x : TellR} {av : Array Value} {W : World} (h : eV lo (fun k => O k ∧ lo ≤ k) x av W) (hlo : lo ≤ W.heap.size) : ∃ A1 n1 c1, av = #[.agg #[.int .u32 (x.1.1 : Int), .slice A1 n1 c1], .int .i64 x.2] ∧ HdAt lo O x A1 n1 c1 W.heap.size (W.alloc (.cells #[.int .u32 (x.1.1 : Int), .slice A1 n1 c1] 51)) := by
  obtain ⟨A1, n1, c1, e, h1, h2, l, h3⟩ := h
  have hb : Below W.heap.size W (W.alloc (.cells #[.int .u32 (x.1.1 : Int), .slice A1 n1 c1] 51)) := (Below.refl _ _).alloc (Nat.le_refl _) _
  refine ⟨A1, n1, c1, e, (h1.below hb).more hb.size, fun h0 a ha hO => h2 a ha ⟨hO, h1.low a ha⟩, ⟨l, own_below' h3 hb⟩, Blk.new W [.int .u32 (x.1.1 : Int), .slice A1 n1 c1] _, hlo⟩
attribute [local go_sem] Oper.semAt_some
set_option maxRecDepth 100000 in
set_option maxHeartbeats 4000000 in
theorem mrows_any (A : Option Addr) (n c : Nat) (es : List Pc) (w : World) (hl : es.length = n) (hn : n ≤ 1000) (hr : BRows w w.heap.size A es) :
    Calls Try.prog 14 #[.slice A n c] w (KsPost w (keysG [] none (es.map (·.2)))) := by
  refine (callsIn_wide (n := 4)).1 ?_
  obtain ⟨H, hH⟩ : ∃ H, H = w.heap.size := ⟨_, rfl⟩
  obtain ⟨W5, hW5⟩ : ∃ W5, ((((w.alloc (.cells #[.slice none 0 0] 36)).alloc (.cells #[.int .i64 0] 28)).alloc (.cells #[.slice none 0 0] 36)).alloc (.cells #[.slice A n c] 35)).alloc (.cells #[.func (.func 32) #[] #[.pointer (some ⟨H + 3, 0, none⟩)]] 47) = W5 := ⟨_, rfl⟩
  have hs5 : W5.heap.size = H + 5 := by rw [← hW5, hH]; simp
  have hb5 : Below w.heap.size w W5 := by rw [← hW5]; exact (((((Below.refl _ _).alloc (Nat.le_refl _) _).alloc (by simp) _).alloc (by simp; omega) _).alloc (by simp; omega) _).alloc (by simp; omega) _
  have b0 : Blk W5 H [.slice none 0 0] := by rw [← hW5, hH]; exact ((((Blk.new w [.slice none 0 0] _).alloc _).alloc _).alloc _).alloc _
  have b1 : Blk W5 (H + 1) [.int .i64 0] := by rw [← hW5, hH]; exact (((Blk.new' (w.alloc _) [.int .i64 0] _ (by simp)).alloc _).alloc _).alloc _
  have b2 : Blk W5 (H + 2) [.slice none 0 0] := by rw [← hW5, hH]; exact ((Blk.new' ((w.alloc _).alloc _) [.slice none 0 0] _ (by simp)).alloc _).alloc _
  have b3 : Blk W5 (H + 3) [.slice A n c] := by rw [← hW5, hH]; exact (Blk.new' (((w.alloc _).alloc _).alloc _) [.slice A n c] _ (by simp)).alloc _
  have b4 : Blk W5 (H + 4) [.func (.func 32) #[] #[.pointer (some ⟨H + 3, 0, none⟩)]] := by rw [← hW5, hH]; exact Blk.new' ((((w.alloc _).alloc _).alloc _).alloc _) [_] _ (by simp)
  have hk5 : KeysFn W5 H (H + 3) (H + 4) (.func (.func 32) #[] #[.pointer (some ⟨H + 3, 0, none⟩)]) es := ⟨b4, .inr ⟨rfl, A, n, c, hl, by omega, b3, by rw [hH]; exact hr.below hb5⟩, by omega, by omega⟩
  have HG := Lib.hid (each_gives hk5 (by omega))
  have HI0 := Lib.hid (show ∀ O : Nat → Prop, (∀ k, O k → H + 5 ≤ k) → RsI H w O [] W5 from fun O hO => ⟨⟨none, 0, 0, [], ⟨b2, World.ownsRow_nil _ _ _ _, (by simp [Value.ownBlock]), rfl, rfl, fun k e => (by cases e), fun i p r h => (by simp at h)⟩⟩, fun x h => (by cases h), hO, b0, b1, by omega, hb5⟩)
  have HHE := Lib.hid hH
  have HW5 := Lib.hid hW5
  have HS5 := Lib.hid hs5
  have HL := Lib.hid hl
  clear hH hW5 hs5 hb5 b0 b1 b2 b3 b4 hk5 hl hr
  refine callsIn_of_wp_marks Try.func14 rfl trivial ?_ rfl
  simp only [Try.ntmps14, List.size_toArray, List.length_cons, List.length_nil, Nat.reduceAdd, Nat.reduceSub, Array.replicate_succ, Array.replicate_zero, List.push_toArray, List.append_toArray, List.nil_append, List.cons_append]
  gi_wp2_with fail
  refine ⟨trivial, (callsIn_wide.2 (values_any A n c _)).mono ?_⟩
  rintro e w' ⟨rfl, rfl⟩
  gi_wp2_with fail
  refine ⟨trivial, (callsIn_wide.2 (each_any _ rfl _)).mono ?_⟩
  rintro e w' ⟨rfl, rfl⟩
  simp only [World.size_alloc, ← HHE.out]
  rw [show H + 1 + 1 + 1 + 1 = H + 4 from rfl, show H + 1 + 1 + 1 = H + 3 from rfl, show H + 1 + 1 = H + 2 from rfl, HW5.out]
  gi_wp2_with fail
  have hs5 := HS5.out
  refine Ru.range_gives (gf := 29) (lb := #[.pointer (some ⟨H + 4, 0, none⟩)]) rfl (Go.Proofs.enters_of Try.func29 (by kernel_rfl) rfl) HG.out (Below.refl _ _) (fun B O x av W h => by obtain ⟨A1, n1, c1, e, -⟩ := h; rw [e]; rfl)
    (fun k => k = H ∨ k = H + 1 ∨ k = H + 2) ?hS ?hM
    (RsI H w) (fun c O pre W' => c = .ret ∧ (∀ k, O k → H + 5 ≤ k) ∧ H + 5 ≤ W'.heap.size ∧ Below w.heap.size w W' ∧ ∃ z, keysG [] none (es.map (·.2)) = ([], z) ∧ Blk W' H [.slice none 0 0] ∧ Blk W' (H + 1) [.int .i64 z]) (RsI.stays HHE.out.symm) ?hIx ?hI0
    (fun O x a' W' => ∃ A1 n1 c1 R, a' = { tmps := #[.slice A n c, undef, .pointer (some ⟨H, 0, none⟩), .pointer (some ⟨H + 1, 0, none⟩), .pointer (some ⟨H + 2, 0, none⟩), .pointer (some ⟨R, 0, none⟩), .int .i64 x.2, .slice A n c, .func (.func 32) #[] #[.pointer (some ⟨H + 3, 0, none⟩)], .func (.func 29) #[] #[.pointer (some ⟨H + 4, 0, none⟩)], .agg #[.int .u32 (x.1.1 : Int), .slice A1 n1 c1], .int .i64 x.2, undef, undef, undef, undef, undef, undef, undef, undef], defers := [] } ∧ HdAt (H + 7) O x A1 n1 c1 R W')
    ?hAx ?assign ?body ?done ?stop
  case hS =>
    intro k hk
    refine ⟨by omega, ?_⟩
    rintro (h | h | h) <;> omega
  case hM =>
    rintro k (h | h | h) <;> omega
  case hIx =>
    intro c O O' pre W' W'' ⟨h1, h2, h3, h4, z, h5, h6, h7⟩ ho hk
    exact ⟨h1, fun k e => (hk k e).elim (h2 k) (fun e => by omega), Nat.le_trans h3 ho.size, h4.trans (ho.below (fun k _ e => by have := h2 k e; have := HHE.out; omega) h4.size), z, h5, h6.out ho (fun e => by have := h2 _ e; omega), h7.out ho (fun e => by have := h2 _ e; omega)⟩
  case hI0 =>
    intro O hO
    exact HI0.out O (fun k hk => by have := hO k hk; omega)
  case hAx =>
    rintro O x a' W1 W2 ⟨A1, n1, c1, R, e, h⟩ ho
    exact ⟨A1, n1, c1, R, e, h.out ho (fun k hk => by rcases hk with h | h <;> omega)⟩
  case assign =>
    rintro O l' m pre x av W' K hO hOD hOD1 hv hI ho hK
    rw [hs5] at hv
    have hW7 : H + 5 + 2 ≤ W'.heap.size := by have := (hO _ hOD1).2; omega
    obtain ⟨A1, n1, c1, rfl, hd⟩ := hd_new hv hW7
    have HD := Lib.hid hd
    have HI2 := Lib.hid ((RsI.stays HHE.out.symm).below hI ((Below.refl _ _).alloc (Nat.le_refl _) (.cells #[.int .u32 (x.1.1 : Int), .slice A1 n1 c1] 51)))
    clear hd hv hI
    gi_wp2
    exact hK _ _ (Out.of_below ((Below.refl _ _).alloc (Nat.le_refl _) _)) HI2.out ⟨A1, n1, c1, _, rfl, HD.out⟩
  case body =>
    rintro O l' m pre x post a' W2 hX hO hOD hOD1 ho hI ⟨A1, n1, c1, R, rfl, hd⟩
    obtain ⟨z, hz⟩ : ∃ z, z = x.2 := ⟨_, rfl⟩
    rw [← hz]
    by_cases hz0 : z = 0
    · have d0 : (z != 0) = false := by simp [hz0]
      obtain ⟨A7, n7, c7, vs, hx⟩ := hI.ex
      have t2 := hx.box.cell (i := 0) rfl
      have f2 := hx.box.frozen 0
      have r0 := hd.box.cell (i := 0) rfl
      have r1 := hd.box.cell (i := 1) rfl
      have hn7 : n7 + 1 ≤ 100000 := by
        have h1 := tell_len (es.map (·.2))
        rw [hX, List.length_append, List.length_map, HL.out, List.length_cons] at h1
        have h2 := hx.num
        rw [List.length_map] at h2
        omega
      obtain ⟨i0, hi0, hz0', hz1, hz2⟩ := info_parts mrow_info
      obtain ⟨s, hs⟩ : ∃ s, s = x.1.1 := ⟨_, rfl⟩
      rw [← hs] at r0
      rw [← hs]
      have HMX := Lib.hid (show n7 + 1 ≤ maxLen by unfold maxLen; omega)
      have HXX := Lib.hid hx
      have HD := Lib.hid hd
      have HI2 := Lib.hid hI
      have HO := Lib.hid hO
      have HZ := Lib.hid (And.intro hz hz0)
      have HS := Lib.hid hs
      have HSZ := Lib.hid hI.size
      have hH2 : H + 2 < W2.heap.size := hx.box.lt
      have HOO := Lib.hid ho
      have HON := Lib.hid (And.intro hOD hOD1)
      have HCE := Lib.hid (show ∀ u ∈ ([.int .u32 (s : Int), .slice A1 n1 c1] : List Value), u.oneCell' = true from fun u hu => by simp at hu; rcases hu with rfl | rfl <;> rfl)
      clear hx hd hI hO hz hs ho hX hz0 hOD hOD1
      gi_wp2_with (gi_at_builtin
                   go_loud (refine wpListIn_append_both rfl (.tmp 15) (.tmp 17) 36 rfl (H + 5) 51 i0 _ 2 32 Try.underlying36 hi0 hz0' hz1 hz2 rfl (by decide) A7 n7 c7 _ rfl (HXX.out.own.alloc _) ⟨W2.heap.size, 0, none⟩ 1 1 [.int .u32 (s : Int), .slice A1 n1 c1] rfl rfl (two_lit rfl) HCE.out (by decide) HMX.out (by omega) (by rw [World.size_alloc]; have := HSZ.out; omega) ?_)
                   intro v6 w6 ho6 hg6 hn6 hfit6
                   refine Classical.byContradiction fun hcontra => ?_)
      obtain ⟨A8, d8, hv8, -⟩ := own_slice' ho6
      subst hv8
      have hba : Below W2.heap.size W2 (W2.alloc (.cells #[.int .u32 (s : Int), .slice A1 n1 c1] 51)) := (Below.refl _ _).alloc (Nat.le_refl _) _
      have hda := HD.out.out (.of_below hba) (T := fun _ => False) (fun k h => h.elim)
      have hxa := HXX.out.stay (O' := O) (.of_below hba) (fun k h => .inl h) (fun e => by have := HI2.out.low _ e; omega)
      rw [HS.out] at ho6 hg6 hn6 hda hxa
      obtain ⟨hcol, hout⟩ := hxa.push (by omega) (RwAt.mk (fun a e => by have := hda.row.low a e; omega) hda.row.src hda.row.fit hda.row.len hda.row.cap hda.row.arcs) hda.free hda.own (fun k hk => by have := (HO.out k hk).2; rw [World.size_alloc]; omega) ho6 hg6 hn6
      have FIN := Lib.hid (show Out (Ru.SO (fun k => k = H ∨ k = H + 1 ∨ k = H + 2) W5.heap.size O) W2 (w6.setCell ⟨H + 2, 0, none⟩ (.slice A8 (n7 + 1) d8)) ∧ RsI H w O (pre ++ [x]) (w6.setCell ⟨H + 2, 0, none⟩ (.slice A8 (n7 + 1) d8)) from by
        have ha := (Out.of_below (S := fun k => k = H + 2 ∨ H + 5 ≤ k ∧ ¬O k) hba)
        rw [HS.out] at ha
        have hall := ha.trans hout
        refine ⟨hall.more fun k _ hk => ?_, ⟨⟨_, _, _, _, by rw [List.map_append]; exact hcol⟩, fun y hy => ?_, HI2.out.low, HI2.out.b0.out hall (by omega), HI2.out.b1.out hall (by omega), Nat.le_trans HI2.out.size hall.size, ?_⟩⟩
        · rcases hk with h | h
          · exact .inl (.inr (.inr h))
          · exact .inr ⟨by omega, h.2⟩
        · rcases List.mem_append.1 hy with h | h
          · exact HI2.out.zero y h
          · rw [List.mem_singleton.1 h, ← HZ.out.1]; exact HZ.out.2
        · exact HI2.out.out.trans (hall.below (fun k _ hk => by have := HHE.out; rcases hk with h | h <;> omega) HI2.out.out.size))
      have e7 := hcol.box.cell (i := 0) rfl
      have hb6 : Blk w6 (H + 2) [.slice A7 n7 c7] := hxa.box.grown hg6 (fun e => by have := (hxa.own.lt _ e).1; omega)
      have e8 := hb6.cell (i := 0) rfl
      have y8 := hb6.frozen 0
      clear ho6 hg6 hn6 hfit6 hba hda hxa hcol hout e7 hb6 r0 r1 t2 f2
      apply hcontra
      clear hcontra
      gi_wp2
      exact FIN.out
    · have d0 : (z != 0) = true := by simp [hz0]
      have q0 := hI.b0.cell (i := 0) rfl
      have q1 := hI.b1.cell (i := 0) rfl
      have g0 := hI.b0.frozen 0
      have g1 := hI.b1.frozen 0
      obtain ⟨hk1, hk2⟩ := tell_good hX (by rw [← hz]; exact hz0)
      rw [← hz] at hk1
      have FIN := Lib.hid (show Out (Ru.SO (fun k => k = H ∨ k = H + 1 ∨ k = H + 2) W5.heap.size O) W2 ((W2.setCell ⟨H, 0, none⟩ (.slice none 0 0)).setCell ⟨H + 1, 0, none⟩ (.int .i64 z)) ∧ Code.ret = .ret ∧ (∀ k, O k → H + 5 ≤ k) ∧ H + 5 ≤ ((W2.setCell ⟨H, 0, none⟩ (.slice none 0 0)).setCell ⟨H + 1, 0, none⟩ (.int .i64 z)).heap.size ∧ Below w.heap.size w ((W2.setCell ⟨H, 0, none⟩ (.slice none 0 0)).setCell ⟨H + 1, 0, none⟩ (.int .i64 z)) ∧ ∃ z', keysG [] none (es.map (·.2)) = ([], z') ∧ Blk ((W2.setCell ⟨H, 0, none⟩ (.slice none 0 0)).setCell ⟨H + 1, 0, none⟩ (.int .i64 z)) H [.slice none 0 0] ∧ Blk ((W2.setCell ⟨H, 0, none⟩ (.slice none 0 0)).setCell ⟨H + 1, 0, none⟩ (.int .i64 z)) (H + 1) [.int .i64 z'] from by
        have hall : Out (fun k => k = H ∨ k = H + 1) W2 ((W2.setCell ⟨H, 0, none⟩ (.slice none 0 0)).setCell ⟨H + 1, 0, none⟩ (.int .i64 z)) := ((Out.refl (fun k => k = H ∨ k = H + 1) W2).setCell (p := ⟨H, 0, none⟩) (.inl (.inl rfl)) _).setCell (p := ⟨H + 1, 0, none⟩) (.inl (.inr rfl)) _
        refine ⟨hall.more fun k _ hk => .inl (by rcases hk with h | h; exact .inl h; exact .inr (.inl h)), rfl, hI.low, Nat.le_trans hI.size hall.size, hI.out.trans (hall.below (fun k _ hk => by have := HHE.out; rcases hk with h | h <;> omega) hI.out.size), z, hk1, ?_, ?_⟩
        · exact (hI.b0.set 0 (.slice none 0 0)).other (p := ⟨H + 1, 0, none⟩) (show H + 1 ≠ H by omega) _
        · exact (hI.b1.other (p := ⟨H, 0, none⟩) (show H ≠ H + 1 by omega) _).set 0 _)
      clear hX hO hOD hOD1 ho hI hd hz hz0 hk1 hk2
      gi_wp2
      have f := FIN.out
      rw [hs5] at f
      exact ⟨f.1, rfl, f.2.2⟩
  case done =>
    rintro O D W2 hO hD hOD ho hI hK
    obtain ⟨A7, n7, c7, vs, hx⟩ := hI.ex
    have hD5 : D = H + 5 := by rw [hD, hs5]
    subst hD5
    have q0 := hI.b0.cell (i := 0) rfl
    have q1 := hI.b1.cell (i := 0) rfl
    have q2 := hx.box.cell (i := 0) rfl
    have g0 := hI.b0.frozen 0
    have g1 := hI.b1.frozen 0
    obtain ⟨rows, hr1, hr2⟩ := tell_all hI.zero
    obtain ⟨W9, hW9⟩ : ∃ W9, (W2.setCell ⟨H, 0, none⟩ (.slice A7 n7 c7)).setCell ⟨H + 1, 0, none⟩ (.int .i64 0) = W9 := ⟨_, rfl⟩
    have hall : Out (fun k => k = H ∨ k = H + 1 ∨ k = H + 5) W2 (W9.putObj (H + 5) (.deferred none)) := by
      rw [← hW9]
      exact (((Out.refl (fun k => k = H ∨ k = H + 1 ∨ k = H + 5) W2).setCell (p := ⟨H, 0, none⟩) (.inl (.inl rfl)) _).setCell (p := ⟨H + 1, 0, none⟩) (.inl (.inr (.inl rfl))) _).trans ((Ru.put_out (O := fun k => k = H + 5) _ (H + 5) _ rfl).more fun k _ e => .inr (.inr e))
    have hb0 : Blk (W9.putObj (H + 5) (.deferred none)) H [.slice A7 n7 c7] := by
      rw [← hW9]
      exact ((hI.b0.set 0 (.slice A7 n7 c7)).other (p := ⟨H + 1, 0, none⟩) (show H + 1 ≠ H by omega) _).out (Ru.put_out (O := fun k => k = H + 5) _ (H + 5) _ rfl) (by omega)
    have hb1 : Blk (W9.putObj (H + 5) (.deferred none)) (H + 1) [.int .i64 0] := by
      rw [← hW9]
      exact ((hI.b1.other (p := ⟨H, 0, none⟩) (show H ≠ H + 1 by omega) _).set 0 _).out (Ru.put_out (O := fun k => k = H + 5) _ (H + 5) _ rfl) (by omega)
    have e0 := hb0.cell (i := 0) rfl
    have e1 := hb1.cell (i := 0) rfl
    have FIN := Lib.hid (show KsPost w (keysG [] none (es.map (·.2))) (.returned (.tuple #[.slice A7 n7 c7, .int .i64 0])) (W9.putObj (H + 5) (.deferred none)) from by
      rw [hr1]
      have hbd := own_bounds hx.own
      have hlen := hx.num
      rw [hr2] at hlen
      have hsz := hI.size
      have hown := own_out hx.own hall (fun k hk e => by
        have h1 := (hx.own.lt k hk).1
        have h2 := hx.free k hk
        rcases e with e | e | e
        · omega
        · omega
        · rw [e] at h2; exact h2 hOD)
      refine ⟨A7, n7, c7, rfl, hlen, hbd.1, hbd.2, ?_, hI.out.trans (hall.below (fun k _ hk => by have := HHE.out; rcases hk with h | h | h <;> omega) hI.out.size)⟩
      refine rows_own (own_more hown (by have := HHE.out; omega)) (Nat.le_refl _) (by rw [hx.len, hr2]) fun i p r hp hr => ?_
      rw [← hr2] at hr
      obtain ⟨h1, h2⟩ := hx.rows i p r hp hr
      have h3 := h1.kept hall (fun h0 a e => by
        have h4 := h1.low a e
        have h5 := (h2 h0 a e).1
        rintro (e' | e' | e')
        · omega
        · omega
        · rw [e'] at h5; exact h5 hOD)
      exact { h3 with low := fun a e => by have := h3.low a e; have := HHE.out; omega })
    have hK9 : W9.heap[H + 5]? = some (.deferred (some [])) := by
      rw [← hW9]
      exact Rt.heap_out (((Out.refl (fun k => k = H ∨ k = H + 1) W2).setCell (p := ⟨H, 0, none⟩) (.inl (.inl rfl)) _).setCell (p := ⟨H + 1, 0, none⟩) (.inl (.inr rfl)) _) hK (by omega)
    have HK9 := Lib.hid hK9
    have HW9 := Lib.hid hW9
    clear hO hD hOD ho hI hK hx hr1 hr2 hall hb0 hb1 hK9 hW9
    gi_wp2_with fail
    rw [HW9.out]
    refine ⟨by simp, .inl ⟨_, _, rfl, run_takeDeferred HK9.out, ?_⟩⟩
    refine ⟨.tuple #[.slice A7 n7 c7, .int .i64 0], ?_, FIN.out⟩
    simp [results, Try.results14, go_sem, e0, e1]
  case stop =>
    rintro O D cc pre post W2 hO hD hOD ho hX ⟨rfl, hlo, hsz, hbw, z, hz, hb0, hb1⟩ hK
    have hD5 : D = H + 5 := by rw [hD, hs5]
    subst hD5
    have hall : Out (fun k => k = H + 5) W2 (W2.putObj (H + 5) (.deferred none)) := Ru.put_out (O := fun k => k = H + 5) _ (H + 5) _ rfl
    have e0 := (hb0.out hall (by omega)).cell (i := 0) rfl
    have e1 := (hb1.out hall (by omega)).cell (i := 0) rfl
    have FIN := Lib.hid (show KsPost w (keysG [] none (es.map (·.2))) (.returned (.tuple #[.slice none 0 0, .int .i64 z])) (W2.putObj (H + 5) (.deferred none)) from by
      rw [hz]
      exact ⟨none, 0, 0, rfl, rfl, Nat.le_refl _, by omega, RowsAt.nil, hbw.trans (hall.below (fun k _ e => by have := HHE.out; omega) hbw.size)⟩)
    have HK := Lib.hid hK
    clear hO hD hOD ho hX hlo hsz hbw hz hb0 hb1 hK hall
    gi_wp2_with fail
    refine ⟨by simp, .inl ⟨_, _, rfl, run_takeDeferred HK.out, ?_⟩⟩
    refine ⟨.tuple #[.slice none 0 0, .int .i64 z], ?_, FIN.out⟩
    simp [results, Try.results14, go_sem, e0, e1]
end Go.Proofs.Ytniffijjdehnaaa
