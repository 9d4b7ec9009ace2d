/- Texts put together, for a law: Play, PlCo, PlCg, PlCr, PlCp, PlCq, PlDo, PlDp, PlBg, Spl. -/
import Derived.Deep.RegionHeld3
import Derived.Test.YtiocpefgccndbaaGreatKS29
import Derived.Test.YtiocpefgccndbaaGreatKS23
import Derived.Test.YtiocpefgccndbaaGreatKS24
section
namespace Go.Proofs.YtiocpefgccndbaaGreat
open Go.RowKit Me Mf Rw Ds Va Go.Maps

/-- Files in memory that go on to be read whatever is written in T. -/
structure FbK (T : Nat → Prop) (A : Option Addr) (n c : Nat) (l : List FB) (w : World) : Prop where
  len : l.length = n
  cap : n ≤ c ∧ c ≤ 9223372036854775807
  at_ : Kk T (fun W => Cs W W.heap.size A (fcl l)) w
section
variable {w w' : World} {T T' : Nat → Prop} {A : Option Addr} {n c : Nat} {l : List FB}
theorem FbK.next (h : FbK T A n c l w) (ho : Out T w w') (hs : ∀ j, T' j → T j ∨ w.heap.size ≤ j) : FbK T' A n c l w' := { h with at_ := h.at_.next ho hs }
theorem FbK.out (h : FbK T A n c l w) (ho : Out T w w') : FbK T A n c l w' := { h with at_ := h.at_.out ho }
theorem FbK.none : FbK T none 0 0 [] w := ⟨rfl, ⟨Nat.le_refl _, by omega⟩, fun _ _ => Cs.empty⟩
theorem FbK.of (h : w'.ownsRow w.heap.size 75 2 (.slice A n c) n (fcl l)) (hl : l.length = n) (hT : ∀ k, T k → k < w.heap.size) : FbK T A n c l w' :=
  ⟨hl, own_bounds h, fun W hW => Cs.of_own (own_out h hW fun k hk e => by have := (h.lt k hk).1; have := hT k e; omega)⟩
end
/-- A play in memory: its struct at G. -/
structure PlayAt (w : World) (B G P D M N : Nat) (X : Sto) (Y : Ply) (own ownD : Nat → Prop) : Prop where
  st : StoreAt w B P D M N X own ownD
  box : ∃ A n c A2 n2 c2 A3 n3 c3 A4 n4 c4, Blk w G [.pointer (some ⟨P, 0, none⟩), .pointer (some ⟨D, 0, none⟩), .int .u64 (Y.m.version : Int), .int .u32 (Y.m.next : Int), .slice A n c, .slice A2 n2 c2, .slice A3 n3 c3, .slice A4 n4 c4, .bool Y.waits] ∧
    ManK own A n c Y.m w ∧ FbK own A2 n2 c2 Y.hv w ∧ FbK own A3 n3 c3 Y.now w ∧ w.ownsRow B 9 1 (.slice A4 n4 c4) n4 (Y.ch.map sv) ∧ ∀ k, (Value.slice A4 n4 c4).ownBlock = some k → own k ∧ ¬ Foot P M ownD k ∧ k ≠ G
  g : own G ∧ ¬ Foot P M ownD G
section
variable {w w' : World} {B G P D M N : Nat} {X : Sto} {Y : Ply} {own ownD : Nat → Prop}
theorem PlayAt.past (h : PlayAt w B G P D M N X Y own ownD) (hb : Below w.heap.size w w') : PlayAt w' B G P D M N X Y own ownD := by
  obtain ⟨A, n, c, A2, n2, c2, A3, n3, c3, A4, n4, c4, h1, h2, h3, h4, h5, h6⟩ := h.box
  exact ⟨h.st.past hb, ⟨A, n, c, A2, n2, c2, A3, n3, c3, A4, n4, c4, h1.past hb, h2.past hb, h3.out (.of_below hb), h4.out (.of_below hb), own_below' h5 hb, h6⟩, h.g⟩
/-- A plan is answered, or that there is no room. -/
def PnPost (w : World) (own : Nat → Prop) (X : Sto) (Y : Ply) (e : Ending) (w' : World) : Prop :=
  Below w.heap.size w w' ∧ ∃ (v x : Nat) (A : Option Addr) (n c : Nat) (b : Bool), e = .returned (.tuple #[mval v x A n c, .bool b]) ∧ ((b = true ∧ ∃ m, m.version = v ∧ m.next = x ∧ NextIs X (namesF Y.now) m ∧ ManK own A n c m w') ∨ (b = false ∧ ∀ m, ¬ NextIs X (namesF Y.now) m))
theorem plan_next {F : List UInt8 → List UInt8} {e : Ending} (hY : PlyOk X F Y) (hj : Y.m.version < 18446744073709551615) (h : PlPost w own Y.m X.S.stored.length Y.now Y.ch e w') : PnPost w own X Y e w' := by
  obtain ⟨hb, h⟩ := h
  refine ⟨hb, ?_⟩
  rw [hY.list, hY.m] at h
  rw [hY.m] at hj
  rcases h with ⟨fs, nx, A, n, c, b, h1, h2, h3, h4⟩ | ⟨h1, h2⟩
  · have hp : St.planD X.m X.S.stored.length (listC X (namesF Y.now)) = some ⟨X.m.version + 1, nx, fs⟩ := by unfold St.planD; rw [h1]; rfl
    refine ⟨_, nx, A, n, c, b, h2, ?_⟩
    cases b with
    | true => exact .inl ⟨rfl, _, rfl, rfl, ⟨hp, hj, h3.1 rfl⟩, h4⟩
    | false =>
      refine .inr ⟨rfl, fun m hm => ?_⟩
      have h5 := hm.1
      rw [hp] at h5
      injection h5 with h5
      have := hm.2.2
      rw [← h5] at this
      exact absurd (h3.2 this) (by decide)
  · exact ⟨0, 0, none, 0, 0, false, h2, .inr ⟨rfl, next_none h1⟩⟩
theorem set3_cell {w : World} {G R i : Nat} {a b c : Value} (h : G ≠ R) : (((w.setCell ⟨R, 0, none⟩ a).setCell ⟨R, 1, none⟩ b).setCell ⟨R, 2, none⟩ c).cell? ⟨G, i, none⟩ = w.cell? ⟨G, i, none⟩ := by
  unfold World.cell?
  rw [Below.heap_setCell _ _ _ _ (by simpa using h), Below.heap_setCell _ _ _ _ (by simpa using h), Below.heap_setCell _ _ _ _ (by simpa using h)]
theorem few_names {F : List UInt8 → List UInt8} (hY : PlyOk X F Y) (hok : OkS X) : ∀ f ∈ Y.now, 1 ≤ f.1.length ∧ f.1.length ≤ 32 := fun f hf => hasN_len hok ((hY.names.mem f.1).1 (List.mem_map.2 ⟨f, hf, rfl⟩))
set_option maxRecDepth 100000 in
set_option maxHeartbeats 4000000 in
theorem plan_any {F : List UInt8 → List UInt8} (h : PlayAt w B G P D M N X Y own ownD) (hY : PlyOk X F Y) {j : Nat} (hj : FewY Y j) (hj60 : j ≤ 60) : Calls Tryz.prog 49 #[.pointer (some ⟨G, 0, none⟩)] w (PnPost w own X Y) := by
  obtain ⟨R, hR⟩ : ∃ R, R = w.heap.size := ⟨_, rfl⟩
  obtain ⟨w0, hw0⟩ : ∃ w0, w0 = w.alloc (.cells #[.int .u64 0, .int .u32 0, .slice none 0 0] 38) := ⟨_, rfl⟩
  have hb0 : Below w.heap.size w w0 := by rw [hw0]; exact (Below.refl _ _).alloc (Nat.le_refl _) _
  have hb1 : Below w.heap.size w w0.drew := hb0.trans ((Below.refl _ _).drew.mono hb0.size)
  have BR := Lib.hid (show Blk w0 R [.int .u64 0, .int .u32 0, .slice none 0 0] by rw [hw0, hR]; exact Blk.new w [.int .u64 0, .int .u32 0, .slice none 0 0] _)
  have hP := h.past hb1
  obtain ⟨A, n, c, A2, n2, c2, A3, n3, c3, A4, n4, c4, h1, h2, h3, h4, h5, h6⟩ := h.box
  replace h1 := h1.past hb1
  replace h4 := h4.out (.of_below hb1)
  replace h5 := own_below' h5 hb1
  obtain ⟨cn, hcn⟩ : ∃ cn, cn = X.S.stored.length := ⟨_, rfl⟩
  obtain ⟨ver, hver⟩ : ∃ v, v = Y.m.version := ⟨_, rfl⟩
  obtain ⟨nx, hnx⟩ : ∃ v, v = Y.m.next := ⟨_, rfl⟩
  have HCO := Lib.hid (count_any hP.st.disk)
  have hown : ∀ k, (own k ∨ k = R) → k < w0.drew.heap.size := fun k hk => by
    have e : w0.drew.heap.size = w.heap.size + 1 := by rw [hw0]; show (w.alloc _).heap.size = _; rw [World.size_alloc]
    rcases hk with q | q
    · have := (h.st.lt q).2; omega
    · omega
  have hchl : Y.ch.length = n4 := by have := h5.1; rw [List.length_map, Nat.mul_one] at this; exact this
  have hnm := few_names hY h.st.ok
  have hplan := rplan_any (own := fun k => own k ∨ k = R) hown A n c Y.m (h2.next (Out.of_below hb1) (fun k hk => hk.imp (fun q => q) (fun q => by omega))) (by rw [hY.m]; exact h.st.ok.fit) cn
    ⟨by have := h.st.ok.big; omega, by have := h.st.disk.good.2.2.2.1; omega⟩ (by rw [hY.m, hcn]; exact h.st.ok.disk) (by have := hj.ver; omega) A3 n3 c3 Y.now h4.len (by have := hj.now; have := h4.len; omega) h4.cap h4.at_.now
    (fun f hf => ⟨(hnm f hf).2, by have := hj.bn f hf; omega⟩) A4 n4 c4 Y.ch hchl (by have := hj.ch; omega) (Cs.of_own h5)
  rw [← hver, ← hnx] at hplan h1
  obtain ⟨c0, c1, c2', c3', c4', c5, c6, c7, c8⟩ : w0.drew.cell? ⟨G, 0, none⟩ = _ ∧ w0.drew.cell? ⟨G, 1, none⟩ = _ ∧ w0.drew.cell? ⟨G, 2, none⟩ = _ ∧ w0.drew.cell? ⟨G, 3, none⟩ = _ ∧ w0.drew.cell? ⟨G, 4, none⟩ = _ ∧ w0.drew.cell? ⟨G, 5, none⟩ = _ ∧ w0.drew.cell? ⟨G, 6, none⟩ = _ ∧ w0.drew.cell? ⟨G, 7, none⟩ = _ ∧ w0.drew.cell? ⟨G, 8, none⟩ = _ :=
    ⟨h1.cell rfl, h1.cell rfl, h1.cell rfl, h1.cell rfl, h1.cell rfl, h1.cell rfl, h1.cell rfl, h1.cell rfl, h1.cell rfl⟩
  rw [← hcn] at HCO
  have hGR : G ≠ R := by have := (h.st.lt h.g.1).2; omega
  have HPL := Lib.hid hplan
  have HBX := Lib.hid h1
  have HW0 := Lib.hid hw0
  have HRE := Lib.hid hR
  have HB1 := Lib.hid hb1
  have HPN := Lib.hid (fun (e : Ending) (w' : World) (q : PlPost w0.drew (fun k => own k ∨ k = R) Y.m cn Y.now Y.ch e w') => plan_next (w := w0.drew) (w' := w') (own := fun k => own k ∨ k = R) hY (by have := hj.ver; omega) (hcn ▸ q))
  clear hplan hw0 hR hb0 hb1 h1 h2 h3 h4 h5 h6 hown hchl hnm hcn hver hnx h hP
  go_enter Tryz.func49, Tryz.ntmps49
  go_upto_region 1 with fail
  rw [← HW0.out, ← HRE.out]
  go_region_held3 (fun w' => w'.cell? ⟨G, 1, none⟩ = some (.pointer (some ⟨D, 0, none⟩)) ∧ w'.cell? ⟨G, 2, none⟩ = some (.int .u64 (ver : Int)) ∧ w'.cell? ⟨G, 3, none⟩ = some (.int .u32 (nx : Int)) ∧ w'.cell? ⟨G, 4, none⟩ = some (.slice A n c) ∧ w'.cell? ⟨G, 6, none⟩ = some (.slice A3 n3 c3) ∧ w'.cell? ⟨G, 7, none⟩ = some (.slice A4 n4 c4)) (first | exact ⟨c1, c2', c3', c4', c6, c7⟩ | exact ⟨d1, d2, d3, d4, d6, d7⟩ | exact ⟨(set3_cell hGR).trans d1, (set3_cell hGR).trans d2, (set3_cell hGR).trans d3, (set3_cell hGR).trans d4, (set3_cell hGR).trans d6, (set3_cell hGR).trans d7⟩)
    (first
    | (go_at_call 43
       refine HCO.out.mono ?_
       rintro e w' ⟨rfl, rfl⟩)
    | (go_at_call 80
       refine HPL.out.mono ?_
       intro e w5 hpl
       have hb5 : Below w0.drew.heap.size w0.drew w5 := hpl.1
       obtain ⟨-, v, x, A5, n5, c5, b, rfl, hq⟩ := HPN.out e w5 hpl
       have HQ := Lib.hid hq
       have BR5 := Lib.hid (BR.out.drew.past hb5)
       have BX5 := HBX.out.past hb5
       have d1 := BX5.cell (i := 1) rfl
       have d2 := BX5.cell (i := 2) rfl
       have d3 := BX5.cell (i := 3) rfl
       have d4 := BX5.cell (i := 4) rfl
       have d6 := BX5.cell (i := 6) rfl
       have d7 := BX5.cell (i := 7) rfl
       have HB5 := Lib.hid (HB1.out.trans (hb5.mono HB1.out.size))
       have r0 := BR5.out.cell (i := 0) rfl
       have r1 := BR5.out.cell (i := 1) rfl
       have r2 := BR5.out.cell (i := 2) rfl
       have f0 := BR5.out.frozen 0
       have f1 := BR5.out.frozen 1
       have f2 := BR5.out.frozen 2
       clear hpl hq hb5 BX5))
  obtain ⟨w7, hw7⟩ : ∃ w7, w7 = ((w5.setCell ⟨R, 0, none⟩ (.int .u64 (v : Int))).setCell ⟨R, 1, none⟩ (.int .u32 (x : Int))).setCell ⟨R, 2, none⟩ (.slice A5 n5 c5) := ⟨_, rfl⟩
  have HB7 := Lib.hid (show Blk w7 R [.int .u64 (v : Int), .int .u32 (x : Int), .slice A5 n5 c5] by rw [hw7]; exact ((BR5.out.set 0 _).set 1 _).set 2 _)
  have HO7 := Lib.hid (show Out (fun k => k = R) w5 w7 by rw [hw7]; exact (((Out.refl (fun k => k = R) w5).setCell (p := ⟨R, 0, none⟩) (.inl rfl) _).setCell (p := ⟨R, 1, none⟩) (.inl rfl) _).setCell (p := ⟨R, 2, none⟩) (.inl rfl) _)
  have HW7 := Lib.hid hw7
  clear hw7 r0 r1 r2 f0 f1 f2 d1 d2 d3 d4 d6 d7
  rw [← HW7.out]
  go_wp2_with fail
  have r0 := HB7.out.cell (i := 0) rfl
  have r1 := HB7.out.cell (i := 1) rfl
  have r2 := HB7.out.cell (i := 2) rfl
  refine bodyPost_ret (v := .tuple #[mval v x A5 n5 c5, .bool b]) (by simp [results, Tryz.results49, go_sem, r0, r1, r2, mval]) rfl ?_
  refine ⟨HB5.out.trans (HO7.out.below (B := w.heap.size) (fun k _ hk => by have := HRE.out; omega) HB5.out.size), v, x, A5, n5, c5, b, rfl, ?_⟩
  rcases HQ.out with ⟨q1, m, q2, q3, q4, q5⟩ | q
  · exact .inl ⟨q1, m, q2, q3, q4, (q5.out (HO7.out.more (S' := fun k => own k ∨ k = R) fun k _ hk => .inr hk)).less fun k _ hk => .inl hk⟩
  · exact .inr q
end
end Go.Proofs.YtiocpefgccndbaaGreat
end
section
namespace Go.Proofs.YtiocpefgccndbaaGreat
open Go.RowKit Me Mf Rw Ds Va Go.Maps

section
variable {w w' : World} {B G P D M N N' : Nat} {X X' : Sto} {Y Y' : Ply} {own ownD own' ownD' : Nat → Prop}
/-- Behind what the store's methods write. -/
theorem PlayAt.store (h : PlayAt w B G P D M N X Y own ownD) (hs : StoreAt w' B P D M N' X' own' ownD') (hf : Fol w w' P M own ownD own' ownD') : PlayAt w' B G P D M N' X' Y own' ownD' := by
  obtain ⟨f1, f2, f3, f4⟩ := hf
  obtain ⟨A, n, c, A2, n2, c2, A3, n3, c3, A4, n4, c4, h1, h2, h3, h4, h5, h6⟩ := h.box
  have ho : Out own w w' := h.st.foot f1
  have hlt : ∀ k, own k → k < w.heap.size := fun k hk => (h.st.lt hk).2
  have hnf : ∀ k, own k → ¬ Foot P M ownD k → ¬ Foot P M ownD' k := fun k hk hn hf => by
    rcases hf with e | e | e
    · exact hn (.inl e)
    · exact hn (.inr (.inl e))
    · rcases f4 k e with q | q
      · exact hn (.inr (.inr q))
      · have := hlt k hk; omega
  refine ⟨hs, ⟨A, n, c, A2, n2, c2, A3, n3, c3, A4, n4, c4, h1.out f1 h.g.2, h2.next ho f2, h3.next ho f2, h4.next ho f2, own_out h5 f1 (fun k hk e => (h6 k hk).2.1 e), fun k hk => ?_⟩, f3 _ h.g.1, hnf _ h.g.1 h.g.2⟩
  obtain ⟨q1, q2, q3⟩ := h6 k hk
  exact ⟨f3 k q1, hnf k q1 q2, q3⟩
/-- Behind what is written in its struct, and made. -/
theorem PlayAt.turn (h : PlayAt w B G P D M N X Y own ownD) {E : Nat → Prop} (hb : B ≤ w.heap.size) (ho : Out (fun k => own k ∧ ¬ Foot P M ownD k) w w') (hE : ∀ k, E k → w.heap.size ≤ k ∧ k < w'.heap.size) {A A2 A3 A4 : Option Addr} {n c n2 c2 n3 c3 n4 c4 : Nat}
    (h1 : Blk w' G [.pointer (some ⟨P, 0, none⟩), .pointer (some ⟨D, 0, none⟩), .int .u64 (Y'.m.version : Int), .int .u32 (Y'.m.next : Int), .slice A n c, .slice A2 n2 c2, .slice A3 n3 c3, .slice A4 n4 c4, .bool Y'.waits])
    (h2 : ManK own A n c Y'.m w) (h3 : FbK own A2 n2 c2 Y'.hv w) (h4 : FbK own A3 n3 c3 Y'.now w) (h5 : w'.ownsRow B 9 1 (.slice A4 n4 c4) n4 (Y'.ch.map sv)) (h6 : ∀ k, (Value.slice A4 n4 c4).ownBlock = some k → (own k ∧ ¬ Foot P M ownD k ∧ k ≠ G) ∨ E k) :
    PlayAt w' B G P D M N X Y' (fun k => own k ∨ E k) ownD := by
  have hlt : ∀ k, own k → k < w.heap.size := fun k hk => (h.st.lt hk).2
  have hO : Out own w w' := ho.more fun k _ hk => hk.1
  have hs : ∀ k, (own k ∨ E k) → own k ∨ w.heap.size ≤ k := fun k hk => hk.imp (fun q => q) (fun q => (hE k q).1)
  have hl := (h.st.lt h.g.1).2
  refine ⟨h.st.wide hO ho (fun k hk => .inl hk) hs (fun k hk => ?_), ⟨A, n, c, A2, n2, c2, A3, n3, c3, A4, n4, c4, h1, h2.next hO hs, h3.next hO hs, h4.next hO hs, h5, fun k hk => ?_⟩, .inl h.g.1, h.g.2⟩
  · rcases hk with q | q
    · exact ⟨(h.st.lt q).1, Nat.lt_of_lt_of_le (hlt k q) ho.size⟩
    · exact ⟨Nat.le_trans hb (hE k q).1, (hE k q).2⟩
  · rcases h6 k hk with ⟨q1, q2, q3⟩ | q
    · exact ⟨.inl q1, q2, q3⟩
    · have h8 := (hE k q).1
      refine ⟨.inr q, fun hf => ?_, by omega⟩
      have := hlt k (h.st.own k hf)
      omega
/-- What a commit of a play leads to. -/
def CmtP (X : Sto) (Y : Ply) (X' : Sto) (Y' : Ply) (ok : Bool) (r : Int) : Prop :=
  (Y.waits = false ∧ X' = X ∧ Y' = Y ∧ r = 0 ∧ ok = true) ∨
  (Y.waits = true ∧ (∀ m, ¬ NextIs X (namesF Y.now) m) ∧ X' = X ∧ Y' = Y ∧ r = 7 ∧ ok = true) ∨
  (Y.waits = true ∧ ∃ m, NextIs X (namesF Y.now) m ∧ Wf m ∧ (putD X m).2 ≠ 0 ∧ X' = { X with S := (putD X m).1, broken := true } ∧ Y' = Y ∧ r = (putD X m).2 ∧ ok = decide (r = 6)) ∨
  (Y.waits = true ∧ ∃ m, NextIs X (namesF Y.now) m ∧ Wf m ∧ (putD X m).2 = 0 ∧ X' = ⟨(putD X m).1, m, noC, X.broken⟩ ∧ Y' = ⟨m, Y.now, Y.now, [], false⟩ ∧ r = 0 ∧ ok = true)
theorem NextIs.one {l : List (List UInt8)} {m m' : ManD} (h : NextIs X l m) (h' : NextIs X l m') : m = m' := by
  have e := h.1.symm.trans h'.1
  injection e
theorem cmt_ways {F : List UInt8 → List UInt8} {r : Int} (h : CmtIs X X' r) (hup : upD X = true) (hY : PlyOk X F Y) :
    (Y.waits = false ∧ X' = X ∧ r = 0) ∨ (Y.waits = true ∧ (∀ m, ¬ NextIs X (namesF Y.now) m) ∧ X' = X ∧ r = 7) ∨
    (Y.waits = true ∧ ∃ m, NextIs X (namesF Y.now) m ∧ (((putD X m).2 ≠ 0 ∧ X' = { X with S := (putD X m).1, broken := true } ∧ r = (putD X m).2) ∨ ((putD X m).2 = 0 ∧ X' = ⟨(putD X m).1, m, noC, X.broken⟩ ∧ r = 0))) := by
  rcases h with ⟨q, -⟩ | ⟨-, q, e, hr⟩ | ⟨-, q, l, hl, hq⟩
  · rw [hup] at q; cases q
  · refine .inl ⟨?_, e, hr⟩
    cases hw : Y.waits with
    | false => rfl
    | true => exact absurd q (hY.waits.1 hw)
  · have hw := hY.waits.2 q
    have hl' := hl.one hY.names
    subst hl'
    rcases hq with ⟨q1, q2, q3⟩ | ⟨m, hm, q⟩
    · exact .inr (.inl ⟨hw, q1, q2, q3⟩)
    · exact .inr (.inr ⟨hw, m, hm, q⟩)
/-- A play's answer. -/
def CpPost (w : World) (B G P D M N : Nat) (X : Sto) (Y : Ply) (own : Nat → Prop) (e : Ending) (w' : World) : Prop :=
  ∃ X' Y' ok r own' ownD', e = .returned (.tuple #[.bool ok, .int .i64 r]) ∧ CmtP X Y X' Y' ok r ∧ PlayAt w' B G P D M N X' Y' own' ownD' ∧ Out own w w' ∧ ∀ k, own' k → own k ∨ w.heap.size ≤ k
set_option maxRecDepth 100000 in
set_option maxHeartbeats 4000000 in
theorem commits_any {F : List UInt8 → List UInt8} (h : PlayAt w B G P D M N X Y own ownD) (hup : upD X = true) (hY : PlyOk X F Y) {j : Nat} (hj : FewY Y j) (hj60 : j ≤ 60) (hN : N ≤ 1000) (hp : X.S.pend.length + 4096 ≤ 1073741824) :
    Calls Tryz.prog 38 #[.pointer (some ⟨G, 0, none⟩)] w (CpPost w B G P D M N X Y own) := by
  have HPN := Lib.hid (plan_any h hY hj hj60)
  have HP := Lib.hid h
  have HY := Lib.hid hY
  have HU := Lib.hid hup
  have HPD := Lib.hid hp
  clear h hY hup hp
  go_enter Tryz.func38, Tryz.ntmps38
  go_upto_region 1 with fail
  go_upto_region 2 with (go_at_call 49; refine HPN.out.mono ?_; rintro e w1 ⟨hb1, v, x, A5, n5, c5, b, rfl, hq⟩; have HB1 := Lib.hid hb1; have HQ := Lib.hid hq; clear hb1 hq)
  obtain ⟨w2, hw2⟩ : ∃ w2, w2 = w1.alloc (.cells #[.int .u64 (v : Int), .int .u32 (x : Int), .slice A5 n5 c5] 38) := ⟨_, rfl⟩
  have hb12 : Below w1.heap.size w1 w2 := by rw [hw2]; exact (Below.refl _ _).alloc (Nat.le_refl _) _
  obtain ⟨W, hW⟩ : ∃ W, W = w1.heap.size := ⟨_, rfl⟩
  have HBW := Lib.hid (show Blk w2 W [.int .u64 (v : Int), .int .u32 (x : Int), .slice A5 n5 c5] by rw [hw2, hW]; exact Blk.new w1 [.int .u64 (v : Int), .int .u32 (x : Int), .slice A5 n5 c5] _)
  have HB2 := Lib.hid (HB1.out.trans (hb12.mono HB1.out.size))
  have hP2 := HP.out.past HB2.out
  have HQ2 := Lib.hid (HQ.out.imp (fun q => (show b = true ∧ ∃ m, m.version = v ∧ m.next = x ∧ NextIs X (namesF Y.now) m ∧ ManK own A5 n5 c5 m w2 from ⟨q.1, q.2.imp fun m q => ⟨q.1, q.2.1, q.2.2.1, q.2.2.2.past hb12⟩⟩)) (fun q => q))
  obtain ⟨A, n, c, A2, n2, c2, A3, n3, c3, A4, n4, c4, h1, -⟩ := hP2.box
  have c0 := h1.cell (i := 0) rfl
  have HCO := Lib.hid (scommit_any hP2.st hN HPD.out)
  have HP2 := Lib.hid hP2
  have HW2 := Lib.hid hw2
  have HWE := Lib.hid hW
  have hWG : W ≠ G := by have := (HP.out.st.lt HP.out.g.1).2; have := HB1.out.size; omega
  have hWw : w.heap.size ≤ W := by have := HB1.out.size; omega
  rw [← hw2, ← hW]
  clear hw2 hb12 hW hP2 h1 HQ HB1
  go_upto_region 3 with (go_at_call 36; refine HCO.out.mono ?_; rintro e w3 ⟨X', r, rfl, hci, own', ownD', hs3, hf3⟩; have HCI := Lib.hid hci; have HS3 := Lib.hid hs3; have HF3 := Lib.hid hf3; clear hci hs3 hf3)
  have HP3 := Lib.hid (HP2.out.store HS3.out HF3.out)
  have HO3 := Lib.hid (show Out own w w3 from (Out.of_below HB2.out).trans (HP2.out.st.foot HF3.out.1))
  have HN3 := Lib.hid (show ∀ k, own' k → own k ∨ w.heap.size ≤ k from fun k hk => by
    rcases HF3.out.2.1 k hk with q | q
    · exact .inl q
    · exact .inr (Nat.le_trans HB2.out.size q))
  have hWo : ¬ Foot P M ownD W := fun hf => by
    have h1 := (HP.out.st.lt (HP.out.st.own W hf)).2
    omega
  have HBW3 := Lib.hid (HBW.out.out HF3.out.1 hWo)
  have hbox := HP3.out.box
  clear c0
  obtain ⟨A, n, c, A2, n2, c2, A3, n3, c3, A4, n4, c4, h1, h2, h3, h4, h5, h6⟩ := hbox
  have HX1 := Lib.hid h1
  have c8 := h1.cell (i := 8) rfl
  obtain ⟨wt, hwt⟩ : ∃ wt, wt = Y.waits := ⟨_, rfl⟩
  rw [← hwt] at c8
  have HWT := Lib.hid hwt
  clear h1 hwt hWo
  rcases cmt_ways HCI.out HU.out HY.out with ⟨q1, q2, q3⟩ | ⟨q1, q2, q3, q4⟩ | ⟨q1, m, q2, ⟨q3, q4, q5⟩ | ⟨q3, q4, q5⟩⟩
  · have hf : wt = false := by rw [HWT.out]; exact q1
    subst hf q3
    have HQQ := Lib.hid (And.intro q1 q2)
    clear q1 q2 HCI HCO
    go_wp2_with fail
    go_ret2
    exact ⟨X', Y, true, 0, own', ownD', rfl, .inl ⟨HQQ.out.1, HQQ.out.2, rfl, rfl, rfl⟩, HP3.out, HO3.out, HN3.out⟩
  · have hf : wt = true := by rw [HWT.out]; exact q1
    have hb : b = false := by
      rcases HQ2.out with ⟨-, m, -, -, q, -⟩ | ⟨q, -⟩
      · exact absurd q (q2 m)
      · exact q
    subst hf hb q4
    have HQQ := Lib.hid (And.intro q1 (And.intro q2 q3))
    clear q1 q2 q3 HCI HCO
    go_wp2_with fail
    go_ret2
    exact ⟨X', Y, true, 7, own', ownD', rfl, .inr (.inl ⟨HQQ.out.1, HQQ.out.2.1, HQQ.out.2.2, rfl, rfl, rfl⟩), HP3.out, HO3.out, HN3.out⟩
  · have hf : wt = true := by rw [HWT.out]; exact q1
    have hb : b = true := by
      rcases HQ2.out with ⟨q, -⟩ | ⟨-, q⟩
      · exact q
      · exact absurd q2 (q m)
    subst hf hb
    have hwf : Wf m := by
      rcases HQ2.out with ⟨-, m', -, -, k3, k4⟩ | ⟨q, -⟩
      · have := k3.one q2
        subst this
        exact k4.now.wf
      · cases q
    have HWF := Lib.hid hwf
    clear hwf
    have hr0 : r ≠ 0 := by rw [q5]; exact q3
    have HQQ := Lib.hid (And.intro q1 (And.intro q2 (And.intro q3 (And.intro q4 q5))))
    clear q1 q2 q3 q4 q5 HCI HCO
    have d0 : (r == 0) = false := by rw [beq_eq_false_iff_ne]; exact hr0
    obtain ⟨ok, hok⟩ : ∃ ok, ok = (r == 6) := ⟨_, rfl⟩
    have HOK := Lib.hid (show ok = decide (r = 6) by rw [hok]; exact (Bool.beq_eq_decide_eq r 6))
    have d6 : (r == 6) = ok := hok.symm
    clear hok hr0
    go_wp2_with fail
    go_ret2
    exact ⟨X', Y, ok, r, own', ownD', rfl, .inr (.inr (.inl ⟨HQQ.out.1, m, HQQ.out.2.1, HWF.out, HQQ.out.2.2.1, HQQ.out.2.2.2.1, rfl, HQQ.out.2.2.2.2, HOK.out⟩)), HP3.out, HO3.out, HN3.out⟩
  · have hf : wt = true := by rw [HWT.out]; exact q1
    have hb : b = true := by
      rcases HQ2.out with ⟨q, -⟩ | ⟨-, q⟩
      · exact q
      · exact absurd q2 (q m)
    subst hf hb q5
    obtain ⟨hv, hx, hmm⟩ : v = m.version ∧ x = m.next ∧ ManK own A5 n5 c5 m w2 := by
      rcases HQ2.out with ⟨-, m', k1, k2, k3, k4⟩ | ⟨q, -⟩
      · have := k3.one q2
        subst this
        exact ⟨k1.symm, k2.symm, k4⟩
      · cases q
    have HM3 := Lib.hid (hmm.next (HP2.out.st.foot HF3.out.1) HF3.out.2.1)
    have HQQ := Lib.hid (And.intro q1 (And.intro q2 (And.intro q3 (And.intro q4 (And.intro hv hx)))))
    have H4 := Lib.hid h4
    have e0 := HBW3.out.cell (i := 0) rfl
    have e1 := HBW3.out.cell (i := 1) rfl
    have e2 := HBW3.out.cell (i := 2) rfl
    have g2 := HX1.out.cell (i := 2) rfl
    have g3 := HX1.out.cell (i := 3) rfl
    have g4 := HX1.out.cell (i := 4) rfl
    have f2 := HX1.out.frozen 2
    have f3 := HX1.out.frozen 3
    have f4 := HX1.out.frozen 4
    have hG3 := HX1.out.lt
    clear hv hx hmm q1 q2 q3 q4 HCI HCO h2 h3 h4 h5 h6 HQ2
    go_upto_region 9 with fail
    obtain ⟨w4, hw4⟩ : ∃ w4, w4 = ((w3.setCell ⟨G, 2, none⟩ (.int .u64 (v : Int))).setCell ⟨G, 3, none⟩ (.int .u32 (x : Int))).setCell ⟨G, 4, none⟩ (.slice A5 n5 c5) := ⟨_, rfl⟩
    have HX4 := Lib.hid (show Blk w4 G [.pointer (some ⟨P, 0, none⟩), .pointer (some ⟨D, 0, none⟩), .int .u64 (v : Int), .int .u32 (x : Int), .slice A5 n5 c5, .slice A2 n2 c2, .slice A3 n3 c3, .slice A4 n4 c4, .bool Y.waits] by rw [hw4]; exact ((HX1.out.set 2 _).set 3 _).set 4 _)
    have HO4 := Lib.hid (show Out (fun k => k = G) w3 w4 by rw [hw4]; exact (((Out.refl (fun k => k = G) w3).setCell (p := ⟨G, 2, none⟩) (.inl rfl) _).setCell (p := ⟨G, 3, none⟩) (.inl rfl) _).setCell (p := ⟨G, 4, none⟩) (.inl rfl) _)
    rw [← hw4]
    have s4 := HX4.out.cell (i := 5) rfl
    have s5 := HX4.out.cell (i := 6) rfl
    have t4 := HX4.out.frozen 5
    clear hw4 e0 e1 e2 g2 g3 g4 f2 f3 f4 c8
    go_upto_region 10 with fail
    obtain ⟨w5, hw5⟩ : ∃ w5, w5 = w4.setCell ⟨G, 5, none⟩ (.slice A3 n3 c3) := ⟨_, rfl⟩
    have HX5 := Lib.hid (show Blk w5 G [.pointer (some ⟨P, 0, none⟩), .pointer (some ⟨D, 0, none⟩), .int .u64 (v : Int), .int .u32 (x : Int), .slice A5 n5 c5, .slice A3 n3 c3, .slice A3 n3 c3, .slice A4 n4 c4, .bool Y.waits] by rw [hw5]; exact HX4.out.set 5 _)
    have HO5 := Lib.hid (show Out (fun k => k = G) w3 w5 by rw [hw5]; exact HO4.out.setCell (p := ⟨G, 5, none⟩) (.inl rfl) _)
    rw [← hw5]
    have s7 := HX5.out.cell (i := 7) rfl
    have t7 := HX5.out.frozen 7
    have hG5 := HX5.out.lt
    clear hw5 s4 s5 t4 HX4 HO4
    go_upto_region 11 with fail
    obtain ⟨w6, hw6⟩ : ∃ w6, w6 = w5.setCell ⟨G, 7, none⟩ (.slice (some ⟨w5.heap.size, 0, none⟩) 0 0) := ⟨_, rfl⟩
    obtain ⟨w7, hw7⟩ : ∃ w7, w7 = w6.alloc (.cells #[] 9) := ⟨_, rfl⟩
    have hs6 : w6.heap.size = w5.heap.size := by rw [hw6, World.size_setCell]
    have HX6 := Lib.hid (show Blk w6 G [.pointer (some ⟨P, 0, none⟩), .pointer (some ⟨D, 0, none⟩), .int .u64 (v : Int), .int .u32 (x : Int), .slice A5 n5 c5, .slice A3 n3 c3, .slice A3 n3 c3, .slice (some ⟨w5.heap.size, 0, none⟩) 0 0, .bool Y.waits] by rw [hw6]; exact HX5.out.set 7 _)
    have HX7 := Lib.hid (show Blk w7 G [.pointer (some ⟨P, 0, none⟩), .pointer (some ⟨D, 0, none⟩), .int .u64 (v : Int), .int .u32 (x : Int), .slice A5 n5 c5, .slice A3 n3 c3, .slice A3 n3 c3, .slice (some ⟨w5.heap.size, 0, none⟩) 0 0, .bool Y.waits] by rw [hw7]; exact HX6.out.alloc _)
    have HO6 := Lib.hid (show Out (fun k => k = G) w3 w6 by rw [hw6]; exact HO5.out.setCell (p := ⟨G, 7, none⟩) (.inl rfl) _)
    have HO7 := Lib.hid (show Out (fun k => k = G) w3 w7 by rw [hw7]; exact HO6.out.alloc _)
    have HR7 := Lib.hid (show w7.ownsRow w5.heap.size 9 1 (.slice (some ⟨w5.heap.size, 0, none⟩) 0 0) 0 (([] : List (List UInt8)).map sv) by rw [hw7, ← hs6]; exact World.ownsRow_lit w6 #[] 0 (Nat.le_refl _) (by unfold maxLen; omega) rfl)
    rw [← hw6, ← hw7]
    have h53 := HO5.out.size
    have h57 : w5.heap.size < w7.heap.size := by rw [hw7, World.size_alloc]; omega
    have s8 := HX7.out.cell (i := 8) rfl
    have t8 := HX7.out.frozen 8
    clear hw7 hw6 hs6 s7 t7 HX6 HO6 HX5 HO5 hG5
    go_wp2_with fail
    obtain ⟨w8, hw8⟩ : ∃ w8, w8 = w7.setCell ⟨G, 8, none⟩ (.bool false) := ⟨_, rfl⟩
    rw [← hw8]
    have HX8 := Lib.hid (show Blk w8 G [.pointer (some ⟨P, 0, none⟩), .pointer (some ⟨D, 0, none⟩), .int .u64 (v : Int), .int .u32 (x : Int), .slice A5 n5 c5, .slice A3 n3 c3, .slice A3 n3 c3, .slice (some ⟨w5.heap.size, 0, none⟩) 0 0, .bool false] by rw [hw8]; exact HX7.out.set 8 _)
    have HO8 := Lib.hid (show Out (fun k => k = G) w3 w8 by rw [hw8]; exact HO7.out.setCell (p := ⟨G, 8, none⟩) (.inl rfl) _)
    have HR8 := Lib.hid (show w8.ownsRow w5.heap.size 9 1 (.slice (some ⟨w5.heap.size, 0, none⟩) 0 0) 0 (([] : List (List UInt8)).map sv) by
      rw [hw8]
      exact own_out HR7.out ((Out.refl (fun k => k = G) w7).setCell (p := ⟨G, 8, none⟩) (.inl rfl) _) (fun k hk e => by have h8 : w5.heap.size = k := Option.some.inj hk; omega))
    have h58 : w5.heap.size < w8.heap.size := by rw [hw8, World.size_setCell]; exact h57
    clear hw8 s8 t8
    go_ret2
    obtain ⟨q1, q2, q3, q4, rfl, rfl⟩ := HQQ.out
    have hB3 : B ≤ w3.heap.size := by
      have := (HP3.out.st.lt HP3.out.g.1)
      omega
    exact ⟨X', ⟨m, Y.now, Y.now, [], false⟩, true, 0, fun k => own' k ∨ k = w5.heap.size, ownD', rfl, .inr (.inr (.inr ⟨q1, m, q2, HM3.out.now.wf, q3, q4, rfl, rfl, rfl⟩)), HP3.out.turn (Y' := ⟨m, Y.now, Y.now, [], false⟩) hB3 (HO8.out.more fun k _ hk => by rw [hk]; exact HP3.out.g) (fun k hk => by subst hk; exact ⟨h53, h58⟩) HX8.out HM3.out H4.out H4.out (own_more HR8.out (by omega)) (fun k hk => .inr (Option.some.inj hk).symm),
      HO3.out.trans' HO8.out (fun k hk => by
        rw [hk]
        exact HN3.out _ HP3.out.g.1), fun k hk => by
        rcases hk with q | q
        · exact HN3.out k q
        · right; have := HO3.out.size; omega⟩
end
end Go.Proofs.YtiocpefgccndbaaGreat
end
section
namespace Go.Proofs.YtiocpefgccndbaaGreat
open Go.RowKit Me Mf Rw Ds Va Go.Maps

section
variable {w w' : World} {B G P D M N N' : Nat} {X X' : Sto} {Y Y' : Ply} {own ownD own' ownD' : Nat → Prop} {F : List UInt8 → List UInt8}
/-- What changes of a play lead to. -/
def CgPost (w : World) (B G P D M N j : Nat) (X : Sto) (F : List UInt8 → List UInt8) (own ownD : Nat → Prop) (e : Ending) (w' : World) : Prop :=
  ∃ X' Y' N' own', e = .returned (.bool true) ∧ N' ≤ N + 1 ∧ X'.S = X.S ∧ X'.m = X.m ∧ Live X' F ∧ PlyOk X' F Y' ∧ FewY Y' (j + 1) ∧ PlayAt w' B G P D M N' X' Y' own' ownD ∧ Out own w w' ∧ ∀ k, own' k → own k ∨ w.heap.size ≤ k
theorem FewY.more {j : Nat} (h : FewY Y j) : FewY Y (j + 1) := ⟨by have := h.now; omega, by have := h.hv; omega, by have := h.ch; omega, by have := h.ver; omega, fun f hf => by have := h.bn f hf; omega, fun f hf => by have := h.bh f hf; omega⟩
theorem FewY.forget {j : Nat} (h : FewY Y j) : FewY ⟨Y.m, Y.hv, Y.hv, [], false⟩ j := ⟨h.hv, h.hv, Nat.zero_le _, h.ver, h.bh, h.bh⟩
theorem FewY.put {j : Nat} (h : FewY Y j) {x b : List UInt8} (hb : b.length ≤ 1000 * (j + 1)) : FewY ⟨Y.m, Y.hv, putGo x b Y.now false, Y.ch ++ [x], true⟩ (j + 1) := ⟨by
    have h1 := putGo_length (x := x) (b := b) Y.now false
    have := h.now
    simp at h1
    show (putGo x b Y.now false).length ≤ _
    omega, by have := h.hv; show Y.hv.length ≤ _; omega, by have := h.ch; show (Y.ch ++ [x]).length ≤ _; rw [List.length_append, List.length_singleton]; omega, by have := h.ver; show Y.m.version ≤ _; omega, fun f hf => by
    rcases (putGo_mem _ _).1 hf with ⟨-, rfl⟩ | ⟨h1, -⟩
    · exact hb
    · have := h.bn f h1; omega, fun f hf => by have := h.bh f hf; omega⟩
theorem FewY.remove {j : Nat} (h : FewY Y j) {x : List UInt8} : FewY ⟨Y.m, Y.hv, withoutD Y.now x, Y.ch, true⟩ (j + 1) := ⟨by
    have h1 : (withoutD Y.now x).length ≤ Y.now.length := List.length_filter_le _ _
    have := h.now
    show (withoutD Y.now x).length ≤ _
    omega, by have := h.hv; show Y.hv.length ≤ _; omega, by have := h.ch; show Y.ch.length ≤ _; omega, by have := h.ver; show Y.m.version ≤ _; omega, fun f hf => by
    have := h.bn f ((List.mem_filter.1 hf).1); omega, fun f hf => by have := h.bh f hf; omega⟩
/-- Nothing has been changed: the files as they were. -/
theorem PlayAt.reset (h : PlayAt w B G P D M N X Y own ownD) {A A2 A3 A4 : Option Addr} {n c n2 c2 n3 c3 n4 c4 : Nat}
    (hx : Blk w G [.pointer (some ⟨P, 0, none⟩), .pointer (some ⟨D, 0, none⟩), .int .u64 (Y.m.version : Int), .int .u32 (Y.m.next : Int), .slice A n c, .slice A2 n2 c2, .slice A3 n3 c3, .slice A4 n4 c4, .bool Y.waits]) (h2 : ManK own A n c Y.m w) (h3 : FbK own A2 n2 c2 Y.hv w)
    (hw : w' = (((w.setCell ⟨G, 6, none⟩ (.slice A2 n2 c2)).setCell ⟨G, 7, none⟩ (.slice (some ⟨w.heap.size, 0, none⟩) 0 0)).setCell ⟨G, 8, none⟩ (.bool false)).alloc (.cells #[] 9)) :
    PlayAt w' B G P D M N X ⟨Y.m, Y.hv, Y.hv, [], false⟩ (fun k => own k ∨ k = w.heap.size) ownD ∧ Out (fun k => k = G) w w' := by
  have hG := hx.lt
  have hB : B ≤ w.heap.size := by have := h.st.lt h.g.1; omega
  have ho1 : Out (fun k => k = G) w (((w.setCell ⟨G, 6, none⟩ (.slice A2 n2 c2)).setCell ⟨G, 7, none⟩ (.slice (some ⟨w.heap.size, 0, none⟩) 0 0)).setCell ⟨G, 8, none⟩ (.bool false)) := (((Out.refl (fun k => k = G) w).setCell (p := ⟨G, 6, none⟩) (.inl rfl) _).setCell (p := ⟨G, 7, none⟩) (.inl rfl) _).setCell (p := ⟨G, 8, none⟩) (.inl rfl) _
  have hb1 := ((hx.set 6 (.slice A2 n2 c2)).set 7 (.slice (some ⟨w.heap.size, 0, none⟩) 0 0)).set 8 (.bool false)
  have hs1 : (((w.setCell ⟨G, 6, none⟩ (.slice A2 n2 c2)).setCell ⟨G, 7, none⟩ (.slice (some ⟨w.heap.size, 0, none⟩) 0 0)).setCell ⟨G, 8, none⟩ (.bool false)).heap.size = w.heap.size := by rw [World.size_setCell, World.size_setCell, World.size_setCell]
  generalize ((w.setCell ⟨G, 6, none⟩ (.slice A2 n2 c2)).setCell ⟨G, 7, none⟩ (.slice (some ⟨w.heap.size, 0, none⟩) 0 0)).setCell ⟨G, 8, none⟩ (.bool false) = w1 at *
  have hr3 : w'.ownsRow w.heap.size 9 1 (.slice (some ⟨w.heap.size, 0, none⟩) 0 0) 0 (([] : List (List UInt8)).map sv) := by rw [hw, ← hs1]; exact World.ownsRow_lit w1 #[] 0 (Nat.le_refl _) (by unfold maxLen; omega) rfl
  have ho3 : Out (fun k => k = G) w w' := by rw [hw]; exact ho1.alloc (.cells #[] 9)
  have hb3 : Blk w' G [.pointer (some ⟨P, 0, none⟩), .pointer (some ⟨D, 0, none⟩), .int .u64 (Y.m.version : Int), .int .u32 (Y.m.next : Int), .slice A n c, .slice A2 n2 c2, .slice A2 n2 c2, .slice (some ⟨w.heap.size, 0, none⟩) 0 0, .bool false] := by rw [hw]; exact hb1.alloc (.cells #[] 9)
  have hs3 : w'.heap.size = w.heap.size + 1 := by rw [hw, World.size_alloc, hs1]
  exact ⟨h.turn (Y' := ⟨Y.m, Y.hv, Y.hv, [], false⟩) (E := fun k => k = w.heap.size) hB (ho3.more fun k _ hk => by rw [hk]; exact h.g) (fun k hk => by omega) hb3 h2 h3 h3 (own_more hr3 hB) (fun k hk => .inr (Option.some.inj hk).symm), ho3⟩
set_option maxRecDepth 100000 in
set_option maxHeartbeats 4000000 in
theorem changes_forget (h : PlayAt w B G P D M N X Y own ownD) (hL : Live X F) (hY : PlyOk X F Y) {j : Nat} (hj : FewY Y j) (hj60 : j ≤ 60) (z : Int) (hz : z ≠ 0 ∧ z ≠ 1 ∧ z ≠ 2) (x : List UInt8) (A0 : Option Addr) (n0 c0 : Nat) :
    Calls Tryz.prog 39 #[.pointer (some ⟨G, 0, none⟩), .agg #[.int .i64 z, sv x, .slice A0 n0 c0]] w (CgPost w B G P D M N j X F own ownD) := by
  obtain ⟨w0, hw0⟩ : ∃ w0, w0 = w.alloc (.cells #[.int .i64 z, sv x, .slice A0 n0 c0] 31) := ⟨_, rfl⟩
  obtain ⟨H, hH⟩ : ∃ H, H = w.heap.size := ⟨_, rfl⟩
  have hb0 : Below w.heap.size w w0 := by rw [hw0]; exact (Below.refl _ _).alloc (Nat.le_refl _) _
  have hbd : Below w.heap.size w w0.drew := hb0.trans ((Below.refl _ _).drew.mono hb0.size)
  have BA := Lib.hid (show Blk w0.drew H [.int .i64 z, sv x, .slice A0 n0 c0] by rw [hw0, hH]; exact (Blk.new w [.int .i64 z, sv x, .slice A0 n0 c0] _).drew)
  have hP0 := h.past hbd
  obtain ⟨A, n, c, A2, n2, c2, A3, n3, c3, A4, n4, c4, h1, h2, h3, h4, h5, h6⟩ := hP0.box
  have HFD := Lib.hid (rfind_any A3 n3 c3 Y.now x w0.drew h4.len (by have := hj.now; have := h4.len; omega) h4.at_.now)
  obtain ⟨ti, tb, hfd⟩ : ∃ ti tb, findD Y.now x = (ti, tb) := ⟨_, _, rfl⟩
  rw [hfd] at HFD
  have c0' := h1.cell (i := 0) rfl
  have c6 := h1.cell (i := 6) rfl
  have a0 := BA.out.cell (i := 0) rfl
  have a1 := BA.out.cell (i := 1) rfl
  have HP := Lib.hid hP0
  have HL := Lib.hid hL
  have HY := Lib.hid hY
  have HJ := Lib.hid hj
  have HW0 := Lib.hid hw0
  have HH := Lib.hid hH
  have HB0 := Lib.hid hbd
  have d0 : (z == 0) = false := by rw [beq_eq_false_iff_ne]; exact hz.1
  have d1 : (z == 1) = false := by rw [beq_eq_false_iff_ne]; exact hz.2.1
  have d2 : (z == 2) = false := by rw [beq_eq_false_iff_ne]; exact hz.2.2
  have HFG := Lib.hid (forget_any hP0.st)
  obtain ⟨lx, hlx⟩ : ∃ lx, lx = x.length := ⟨_, rfl⟩
  have hsz : (ByteArray.mk x.toArray).size = lx := by rw [hlx]; exact List.size_toArray ..
  have hway : (decide ((0 : Int) < (lx : Int)) = false ∧ decide (0 < lx) = false) ∨ (decide ((0 : Int) < (lx : Int)) = true ∧ decide (0 < lx) = true ∧ ∃ g, decide ((lx : Int) ≤ 32) = g ∧ decide (lx ≤ 32) = g) := by
    by_cases h0 : 0 < lx
    · exact .inr ⟨by simp; omega, by simp; omega, _, rfl, by rw [decide_eq_decide]; omega⟩
    · exact .inl ⟨by simp; omega, by simp; omega⟩
  clear hw0 hH hb0 hbd h hP0 hL hY hj h1 h2 h3 h4 h5 h6 hz hfd hlx
  rcases hway with ⟨l0, l1⟩ | ⟨l0, l1, g, l2, l3⟩
  all_goals
    go_enter Tryz.func39, Tryz.ntmps39
    go_upto_region 1 with fail
    rw [← HW0.out, ← HH.out]
    go_region_held3 (fun w' => w'.cell? ⟨G, 6, none⟩ = some (.slice A3 n3 c3) ∧ w'.cell? ⟨H, 1, none⟩ = some (sv x)) (first | exact ⟨c6, a1⟩) (first | (go_at_call 40; refine HFD.out.mono ?_; rintro e w' ⟨rfl, rfl⟩))
    go_upto_region 27 with (go_at_call 31; refine HFG.out.mono ?_; rintro e w3 ⟨rfl, hs3, ho3⟩; have HS3 := Lib.hid hs3; have HO3 := Lib.hid ho3; clear hs3 ho3)
    have hP3 := HP.out.store HS3.out (Fol.foot HO3.out)
    have HO4 := Lib.hid (show Out own w w3 from (Out.of_below HB0.out).trans (HP.out.st.foot HO3.out))
    have hbox := hP3.box
    clear c0' c6 a0 a1
    obtain ⟨A, n, c, A2, n2, c2, A3, n3, c3, A4, n4, c4, h1, h2, h3, h4, h5, h6⟩ := hbox
    have s5 := h1.cell (i := 5) rfl
    have s6 := h1.cell (i := 6) rfl
    have s7 := h1.cell (i := 7) rfl
    have s8 := h1.cell (i := 8) rfl
    have t6 := h1.frozen 6
    have t7 := h1.frozen 7
    have t8 := h1.frozen 8
    have hG3 := h1.lt
    obtain ⟨w9, hw9⟩ : ∃ w9, w9 = (((w3.setCell ⟨G, 6, none⟩ (.slice A2 n2 c2)).setCell ⟨G, 7, none⟩ (.slice (some ⟨w3.heap.size, 0, none⟩) 0 0)).setCell ⟨G, 8, none⟩ (.bool false)).alloc (.cells #[] 9) := ⟨_, rfl⟩
    obtain ⟨r1, r2⟩ := hP3.reset h1 h2 h3 hw9
    have HR1 := Lib.hid r1
    have HR2 := Lib.hid r2
    have HW9 := Lib.hid hw9
    clear hP3 h1 h2 h3 h4 h5 h6 r1 r2 hw9
    go_wp2_with fail
    rw [← HW9.out]
    go_ret
    have hok := HS3.out.ok
    exact ⟨{ X with C := noC }, ⟨Y.m, Y.hv, Y.hv, [], false⟩, N, fun k => own k ∨ k = w3.heap.size, rfl, Nat.le_succ _, rfl, rfl, HL.out.change hok, HY.out.forget HL.out.ok.fit X.S X.broken, HJ.out.forget.more, HR1.out,
      HO4.out.trans (HR2.out.more fun k _ hk => by rw [hk]; exact HP.out.g.1), fun k hk => by
        rcases hk with q | q
        · exact .inl q
        · right; have := HO4.out.size; omega⟩
end
end Go.Proofs.YtiocpefgccndbaaGreat
end
section
namespace Go.Proofs.YtiocpefgccndbaaGreat
open Go.RowKit Me Mf Rw Ds Va Go.Maps

section
variable {w w' : World} {B G P D M N N' : Nat} {X X' : Sto} {Y Y' : Ply} {own ownD own' ownD' : Nat → Prop} {F : List UInt8 → List UInt8}
theorem PlayAt.st_ptr (h : PlayAt w B G P D M N X Y own ownD) : w.cell? ⟨G, 0, none⟩ = some (.pointer (some ⟨P, 0, none⟩)) := by
  obtain ⟨A, n, c, A2, n2, c2, A3, n3, c3, A4, n4, c4, h1, -⟩ := h.box
  exact h1.cell (i := 0) rfl
/-- The files anew, a change waits. -/
theorem PlayAt.renow (h : PlayAt w B G P D M N X Y own ownD) {A A2 A3 A4 A5 : Option Addr} {n c n2 c2 n3 c3 n4 c4 n5 c5 : Nat} {l : List FB}
    (hx : Blk w G [.pointer (some ⟨P, 0, none⟩), .pointer (some ⟨D, 0, none⟩), .int .u64 (Y.m.version : Int), .int .u32 (Y.m.next : Int), .slice A n c, .slice A2 n2 c2, .slice A3 n3 c3, .slice A4 n4 c4, .bool Y.waits]) (h2 : ManK own A n c Y.m w) (h3 : FbK own A2 n2 c2 Y.hv w)
    (h5 : w.ownsRow B 9 1 (.slice A4 n4 c4) n4 (Y.ch.map sv)) (h6 : ∀ k, (Value.slice A4 n4 c4).ownBlock = some k → own k ∧ ¬ Foot P M ownD k ∧ k ≠ G) (h7 : FbK own A5 n5 c5 l w)
    (hw : w' = (w.setCell ⟨G, 6, none⟩ (.slice A5 n5 c5)).setCell ⟨G, 8, none⟩ (.bool true)) :
    PlayAt w' B G P D M N X ⟨Y.m, Y.hv, l, Y.ch, true⟩ (fun k => own k ∨ False) ownD ∧ Out (fun k => k = G) w w' := by
  have hB : B ≤ w.heap.size := by have := h.st.lt h.g.1; omega
  have ho : Out (fun k => k = G) w w' := by rw [hw]; exact ((Out.refl (fun k => k = G) w).setCell (p := ⟨G, 6, none⟩) (.inl rfl) _).setCell (p := ⟨G, 8, none⟩) (.inl rfl) _
  have hb : Blk w' G [.pointer (some ⟨P, 0, none⟩), .pointer (some ⟨D, 0, none⟩), .int .u64 (Y.m.version : Int), .int .u32 (Y.m.next : Int), .slice A n c, .slice A2 n2 c2, .slice A5 n5 c5, .slice A4 n4 c4, .bool true] := by rw [hw]; exact (hx.set 6 _).set 8 _
  exact ⟨h.turn (Y' := ⟨Y.m, Y.hv, l, Y.ch, true⟩) (E := fun _ => False) hB (ho.more fun k _ hk => by rw [hk]; exact h.g) (fun k hk => hk.elim) hb h2 h3 h7 (own_out h5 ho fun k hk e => (h6 k hk).2.2 e) (fun k hk => .inl (h6 k hk)), ho⟩
theorem rem_is (hup : upD X = true) (x : List UInt8) : sremD X x = if hasN X x then 0 else 8 := by
  unfold sremD
  rw [hup, if_pos rfl, size_has]
set_option maxRecDepth 100000 in
set_option maxHeartbeats 4000000 in
theorem changes_remove (h : PlayAt w B G P D M N X Y own ownD) (hL : Live X F) (hY : PlyOk X F Y) {j : Nat} (hj : FewY Y j) (hj60 : j ≤ 60) (hN : N ≤ 1000) (x : List UInt8) (hx : x.length ≤ 100) (A0 : Option Addr) (n0 c0 : Nat) :
    Calls Tryz.prog 39 #[.pointer (some ⟨G, 0, none⟩), .agg #[.int .i64 2, sv x, .slice A0 n0 c0]] w (CgPost w B G P D M N j X F own ownD) := by
  obtain ⟨w0, hw0⟩ : ∃ w0, w0 = w.alloc (.cells #[.int .i64 2, sv x, .slice A0 n0 c0] 31) := ⟨_, rfl⟩
  obtain ⟨H, hH⟩ : ∃ H, H = w.heap.size := ⟨_, rfl⟩
  have hb0 : Below w.heap.size w w0 := by rw [hw0]; exact (Below.refl _ _).alloc (Nat.le_refl _) _
  have hbd : Below w.heap.size w w0.drew := hb0.trans ((Below.refl _ _).drew.mono hb0.size)
  have hbdd : Below w.heap.size w w0.drew.drew := hbd.trans ((Below.refl _ _).drew.mono hbd.size)
  have hdr : Below w0.drew.heap.size w0.drew w0.drew.drew := (Below.refl _ _).drew
  have BA := Lib.hid (show Blk w0.drew H [.int .i64 2, sv x, .slice A0 n0 c0] by rw [hw0, hH]; exact (Blk.new w [.int .i64 2, sv x, .slice A0 n0 c0] _).drew)
  have hP0 := h.past hbd
  have hP1 := h.past hbdd
  obtain ⟨A, n, c, A2, n2, c2, A3, n3, c3, A4, n4, c4, h1, h2, h3, h4, h5, h6⟩ := hP0.box
  have HFD := Lib.hid (rfind_any A3 n3 c3 Y.now x w0.drew h4.len (by have := hj.now; have := h4.len; omega) h4.at_.now)
  have c0' := h1.cell (i := 0) rfl
  have c6 := h1.cell (i := 6) rfl
  have a0 := BA.out.cell (i := 0) rfl
  have a1 := BA.out.cell (i := 1) rfl
  have k0 := (h1.past hdr).cell (i := 0) rfl
  have k1 := (BA.out.past hdr).cell (i := 1) rfl
  have HP := Lib.hid hP1
  have HL := Lib.hid hL
  have HY := Lib.hid hY
  have HJ := Lib.hid hj
  have HW0 := Lib.hid hw0
  have HH := Lib.hid hH
  have HB0 := Lib.hid hbdd
  have HBA := Lib.hid (BA.out.past hdr)
  have HRM := Lib.hid (sremove_any hP1.st x (by omega) (by unfold maxLen; omega))
  rw [rem_is hL.up] at HRM
  obtain ⟨lx, hlx⟩ : ∃ lx, lx = x.length := ⟨_, rfl⟩
  have hsz : (ByteArray.mk x.toArray).size = lx := by rw [hlx]; exact List.size_toArray ..
  have hway : (decide ((0 : Int) < (lx : Int)) = false ∧ decide (0 < lx) = false) ∨ (decide ((0 : Int) < (lx : Int)) = true ∧ decide (0 < lx) = true ∧ ∃ g, decide ((lx : Int) ≤ 32) = g ∧ decide (lx ≤ 32) = g) := by
    by_cases h0 : 0 < lx
    · exact .inr ⟨by simp; omega, by simp; omega, _, rfl, by rw [decide_eq_decide]; omega⟩
    · exact .inl ⟨by simp; omega, by simp; omega⟩
  have hHG : H ≠ G := by have := (h.st.lt h.g.1).2; omega
  have hthere := hY.there x
  have HHF := Lib.hid (fun k (hk : Foot P M ownD k) => show k ≠ H from by have := (h.st.lt (h.st.own k hk)).2; omega)
  clear hw0 hH hb0 hbd hbdd hdr h hP0 hP1 hL hY hj h1 h2 h3 h4 h5 h6 hlx
  rcases hway with ⟨l0, l1⟩ | ⟨l0, l1, g, l2, l3⟩
  all_goals
    rcases hthere with ⟨hh, i, f, e1, e2, e3, e4⟩ | ⟨hh, e1⟩
    · rw [e1] at HFD
      rw [hh, if_pos rfl] at HRM
      have HE := Lib.hid hh
      clear e1 e2 e3 e4 hh
      go_enter Tryz.func39, Tryz.ntmps39
      go_upto_region 1 with fail
      rw [← HW0.out, ← HH.out]
      go_region_held3 (fun w' => w'.cell? ⟨G, 6, none⟩ = some (.slice A3 n3 c3) ∧ w'.cell? ⟨H, 1, none⟩ = some (sv x)) (first | exact ⟨c6, a1⟩) (first | (go_at_call 40; refine HFD.out.mono ?_; rintro e w' ⟨rfl, rfl⟩))
      go_upto_region 20 with fail
      go_region_held3 (fun w' => w'.cell? ⟨G, 0, none⟩ = some (.pointer (some ⟨P, 0, none⟩)) ∧ w'.cell? ⟨H, 1, none⟩ = some (sv x)) (first | exact ⟨k0, k1⟩ | exact ⟨k2, k3⟩)
        (first | (go_at_call 35; refine HRM.out.mono ?_; rintro e w3 ⟨rfl, hq⟩; rcases hq with ⟨q, -⟩ | ⟨-, hs3, ho3⟩; exact absurd rfl q; have HS3 := Lib.hid hs3; have HO3 := Lib.hid ho3; have HP3 := Lib.hid (HP.out.store hs3 (Fol.foot ho3)); have k2 := (HP3.out.st_ptr); have k3 := (HBA.out.out ho3 (fun e => HHF.out _ e rfl)).cell (i := 1) rfl; clear hs3 ho3))
      have HOW := Lib.hid (show Out own w w3 from (Out.of_below HB0.out).trans (HP.out.st.foot HO3.out))
      have hbd3 : Below w3.heap.size w3 w3.drew := (Below.refl _ _).drew
      have hP4 := HP3.out.past hbd3
      obtain ⟨A, n, c, A2, n2, c2, A3, n3, c3, A4, n4, c4, h1, h2, h3, h4, h5, h6⟩ := hP4.box
      have HX4 := Lib.hid h1
      have HOK := Lib.hid HS3.out.ok
      have q6 := h1.cell (i := 6) rfl
      have q1 := (HBA.out.out HO3.out (fun e => HHF.out _ e rfl)).past hbd3 |>.cell (i := 1) rfl
      have HBA3 := Lib.hid ((HBA.out.out HO3.out (fun e => HHF.out _ e rfl)).past hbd3)
      have HWO := Lib.hid (rwithout_any A3 n3 c3 Y.now x w3.drew h4.len (by have := HJ.out.now; have := h4.len; omega) h4.at_.now)
      have HP4 := Lib.hid hP4
      have HOB := Lib.hid (show Out own w w3.drew from HOW.out.trans (.of_below hbd3))
      clear k2 k3 k0 k1 c0' c6 a0 a1 hbd3 hP4 h1 h2 h3 h4 h5 h6 HRM
      go_upto_region 23 with fail
      go_region_law (first
        | (rw [if_pos (by simp [Region.wanted])]
           go_simp
           go_at_call 68
           refine HWO.out.mono ?_
           rintro e w5 ⟨A5, n5, c5, rfl, hl5, hr5, hb5⟩
           have hr5' := hr5
           have p1 := (HBA3.out.past hb5).cell (i := 1) rfl
           have g6 := (HX4.out.past hb5).cell (i := 6) rfl
           have f6 := (HX4.out.past hb5).frozen 6
           have HL5 := Lib.hid hl5
           have HR5 := Lib.hid hr5'
           have HB5 := Lib.hid hb5
           clear hl5 hr5 hr5' hb5))
      all_goals
        have hP5 := HP4.out.past HB5.out
        obtain ⟨A, n, c, A2, n2, c2, A6, n6, c6, A4, n4, c4, h1, h2, h3, h4, h5, h6⟩ := hP5.box
        have g8 := h1.cell (i := 8) rfl
        have f8 := h1.frozen 8
        have hG5 := h1.lt
        have HFB := Lib.hid (show FbK own A5 n5 c5 (withoutD Y.now x) w5 from FbK.of HR5.out HL5.out (fun k hk => (HP4.out.st.lt hk).2))
        obtain ⟨w9, hw9⟩ : ∃ w9, w9 = (w5.setCell ⟨G, 6, none⟩ (.slice A5 n5 c5)).setCell ⟨G, 8, none⟩ (.bool true) := ⟨_, rfl⟩
        obtain ⟨r1, r2⟩ := hP5.renow h1 h2 h3 h5 h6 HFB.out hw9
        have HR1 := Lib.hid r1
        have HR2 := Lib.hid r2
        have HW9 := Lib.hid hw9
        clear hP5 h1 h2 h3 h4 h5 h6 r1 r2 hw9 q1 q6 p1 g6 f6
        go_wp2_with fail
        rw [← HW9.out]
        go_ret
        exact ⟨{ X with C := setC X.C x none }, ⟨Y.m, Y.hv, withoutD Y.now x, Y.ch, true⟩, N + 1, _, rfl, Nat.le_refl _, rfl, rfl, HL.out.change HOK.out, HY.out.remove x, HJ.out.remove, HR1.out,
          (HOB.out.trans (.of_below HB5.out)).trans (HR2.out.more fun k _ hk => by rw [hk]; exact HP.out.g.1), fun k hk => .inl (hk.elim (fun q => q) (fun q => q.elim))⟩
    · rw [e1] at HFD
      rw [hh, if_neg (by decide)] at HRM
      clear e1
      go_enter Tryz.func39, Tryz.ntmps39
      go_upto_region 1 with fail
      rw [← HW0.out, ← HH.out]
      go_region_held3 (fun w' => w'.cell? ⟨G, 6, none⟩ = some (.slice A3 n3 c3) ∧ w'.cell? ⟨H, 1, none⟩ = some (sv x)) (first | exact ⟨c6, a1⟩) (first | (go_at_call 40; refine HFD.out.mono ?_; rintro e w' ⟨rfl, rfl⟩))
      go_upto_region 20 with fail
      go_region_held3 (fun w' => w'.cell? ⟨G, 0, none⟩ = some (.pointer (some ⟨P, 0, none⟩)) ∧ w'.cell? ⟨H, 1, none⟩ = some (sv x)) (first | exact ⟨k0, k1⟩ | exact ⟨k2, k3⟩)
        (first | (go_at_call 35; refine HRM.out.mono ?_; rintro e w3 ⟨rfl, hq⟩; rcases hq with ⟨-, hs3, ho3⟩ | ⟨q, -⟩; rotate_left; exact absurd q (by decide); have HS3 := Lib.hid hs3; have HO3 := Lib.hid ho3; have HP3 := Lib.hid (HP.out.store hs3 (Fol.foot ho3)); have k2 := (HP3.out.st_ptr); have k3 := (HBA.out.out ho3 (fun e => HHF.out _ e rfl)).cell (i := 1) rfl; clear hs3 ho3))
      go_wp2_with fail
      go_ret
      exact ⟨X, Y, N, own, rfl, Nat.le_succ _, rfl, rfl, HL.out, HY.out, HJ.out.more, HP3.out, (Out.of_below HB0.out).trans (HP.out.st.foot HO3.out), fun k hk => .inl hk⟩
end
end Go.Proofs.YtiocpefgccndbaaGreat
end
section
namespace Go.Proofs.YtiocpefgccndbaaGreat
open Go.RowKit Me Mf Rw Ds Va Go.Maps

section
variable {w w' : World} {B G P D M N N' : Nat} {X X' : Sto} {Y Y' : Ply} {own ownD own' ownD' : Nat → Prop} {F : List UInt8 → List UInt8}
/-- The files anew, one name more has been changed. -/
theorem PlayAt.puts (h : PlayAt w B G P D M N X Y own ownD) {A A2 A3 A4 A5 : Option Addr} {n c n2 c2 n3 c3 n4 c4 n5 c5 : Nat} {l : List FB} {x : List UInt8} {w6 : World} {v : Value}
    (hx : Blk w G [.pointer (some ⟨P, 0, none⟩), .pointer (some ⟨D, 0, none⟩), .int .u64 (Y.m.version : Int), .int .u32 (Y.m.next : Int), .slice A n c, .slice A2 n2 c2, .slice A3 n3 c3, .slice A4 n4 c4, .bool Y.waits]) (h2 : ManK own A n c Y.m w) (h3 : FbK own A2 n2 c2 Y.hv w)
    (h6 : ∀ k, (Value.slice A4 n4 c4).ownBlock = some k → own k ∧ ¬ Foot P M ownD k ∧ k ≠ G) (h7 : FbK own A5 n5 c5 l w)
    (ho6 : w6.ownsRow B 9 1 v (n4 + 1) (Y.ch.map sv ++ [sv x])) (hg6 : (((w.setCell ⟨G, 6, none⟩ (.slice A5 n5 c5)).drew).alloc (.cells #[sv x] 9)).grownBy w6 (Value.slice A4 n4 c4).ownBlock)
    (hn6 : v.ownBlock = (Value.slice A4 n4 c4).ownBlock ∨ v.ownBlock = some (((w.setCell ⟨G, 6, none⟩ (.slice A5 n5 c5)).drew).alloc (.cells #[sv x] 9)).heap.size)
    (hw : w' = (w6.setCell ⟨G, 7, none⟩ v).setCell ⟨G, 8, none⟩ (.bool true)) :
    ∃ own', PlayAt w' B G P D M N X ⟨Y.m, Y.hv, l, Y.ch ++ [x], true⟩ own' ownD ∧ Out own w w' ∧ ∀ k, own' k → own k ∨ w.heap.size ≤ k := by
  have hG := hx.lt
  have hB : B ≤ w.heap.size := by have := h.st.lt h.g.1; omega
  obtain ⟨A6, c6, rfl, -⟩ := own_slice' ho6
  have hsz : (((w.setCell ⟨G, 6, none⟩ (.slice A5 n5 c5)).drew).alloc (.cells #[sv x] 9)).heap.size = w.heap.size + 1 := by rw [World.size_alloc, World.size_drew, World.size_setCell]
  have hoA : Out (fun k => k = G) w (((w.setCell ⟨G, 6, none⟩ (.slice A5 n5 c5)).drew).alloc (.cells #[sv x] 9)) := ((((Out.refl (fun k => k = G) w).setCell (p := ⟨G, 6, none⟩) (.inl rfl) _)).trans (out_drew _ _)).alloc _
  have hbA := (((hx.set 6 (.slice A5 n5 c5)).drew).alloc (.cells #[sv x] 9))
  rw [hsz] at hn6
  generalize ((w.setCell ⟨G, 6, none⟩ (.slice A5 n5 c5)).drew).alloc (.cells #[sv x] 9) = wa at *
  have hne : (Value.slice A4 n4 c4).ownBlock ≠ some G := fun e => (h6 G e).2.2 rfl
  have hb6 := hbA.grown hg6 hne
  have ho6' : Out (fun k => k = G ∨ (Value.slice A4 n4 c4).ownBlock = some k) w w6 := (hoA.more fun k _ hk => .inl hk).grown hg6 fun k e => .inl (.inr e)
  have hbl : ∀ k, (Value.slice A6 (n4 + 1) c6).ownBlock = some k → (Value.slice A4 n4 c4).ownBlock = some k ∨ k = w.heap.size + 1 := fun k hk => by
    rcases hn6 with e | e
    · exact .inl (e ▸ hk)
    · rw [e] at hk; injection hk with hk; exact .inr hk.symm
  have ho : Out (fun k => k = G ∨ (Value.slice A4 n4 c4).ownBlock = some k) w w' := by rw [hw]; exact (ho6'.setCell (p := ⟨G, 7, none⟩) (.inl (.inl rfl)) _).setCell (p := ⟨G, 8, none⟩) (.inl (.inl rfl)) _
  have hb : Blk w' G [.pointer (some ⟨P, 0, none⟩), .pointer (some ⟨D, 0, none⟩), .int .u64 (Y.m.version : Int), .int .u32 (Y.m.next : Int), .slice A n c, .slice A2 n2 c2, .slice A5 n5 c5, .slice A6 (n4 + 1) c6, .bool true] := by rw [hw]; exact (hb6.set 7 _).set 8 _
  have hs : w'.heap.size = w6.heap.size := by rw [hw, World.size_setCell, World.size_setCell]
  have hr : w'.ownsRow B 9 1 (.slice A6 (n4 + 1) c6) (n4 + 1) ((Y.ch ++ [x]).map sv) := by
    rw [List.map_append, hw]
    refine own_out (S := fun k => k = G) ho6 (((Out.refl (fun k => k = G) w6).setCell (p := ⟨G, 7, none⟩) (.inl rfl) _).setCell (p := ⟨G, 8, none⟩) (.inl rfl) _) fun k hk e => ?_
    rcases hbl k hk with q | q
    · exact (h6 k q).2.2 e
    · omega
  have hin : ∀ k, k = G ∨ (Value.slice A4 n4 c4).ownBlock = some k → own k ∧ ¬ Foot P M ownD k := fun k hk => by
    rcases hk with q | q
    · rw [q]; exact h.g
    · exact ⟨(h6 k q).1, (h6 k q).2.1⟩
  refine ⟨fun k => own k ∨ ((Value.slice A6 (n4 + 1) c6).ownBlock = some k ∧ w.heap.size ≤ k), h.turn (Y' := ⟨Y.m, Y.hv, l, Y.ch ++ [x], true⟩) (E := fun k => (Value.slice A6 (n4 + 1) c6).ownBlock = some k ∧ w.heap.size ≤ k) hB (ho.more fun k _ hk => hin k hk) (fun k hk => ⟨hk.2, by rw [hs]; exact (ho6.lt k hk.1).2⟩) hb h2 h3 h7 hr (fun k hk => ?_), ho.more fun k _ hk => (hin k hk).1, fun k hk => hk.imp (fun q => q) fun q => q.2⟩
  rcases hbl k hk with q | q
  · exact .inl (h6 k q)
  · exact .inr ⟨hk, by omega⟩
theorem str_one (w : World) (x : List UInt8) (t : TypeId) : ∀ j u, [sv x][j]? = some u → (w.alloc (.cells #[sv x] t)).cell? ((⟨w.heap.size, 0, none⟩ : Addr).add j) = some u := cell_one_new w (sv x) t
theorem str_cell (x : List UInt8) : ∀ u ∈ [sv x], u.oneCell' = true := fun u hu => by rw [List.mem_singleton.1 hu]; rfl
theorem str_info : (Tryz.prog.info? 9).map (fun i => (i.zero, i.size, i.bytes)) = some (some (.string ⟨#[]⟩), 1, 16) := by kernel_rfl
theorem allow_bad (hup : upD X = true) {x : List UInt8} {n : Int} (hx : x.length = 0 ∨ 32 < x.length) : allowD (upD X) x n = 8 := by rw [hup]; unfold allowD; rw [if_pos rfl, if_pos hx]
theorem allow_good (hup : upD X = true) {x : List UInt8} {n : Int} (hx : 1 ≤ x.length ∧ x.length ≤ 32) (hn : n ≤ 1048576) : allowD (upD X) x n = 0 := by rw [hup]; unfold allowD; rw [if_pos rfl, if_neg (by omega), if_neg (by omega)]
set_option maxRecDepth 100000 in
set_option maxHeartbeats 8000000 in
theorem changes_put0 (h : PlayAt w B G P D M N X Y own ownD) (hL : Live X F) (hY : PlyOk X F Y) {j : Nat} (hj : FewY Y j) (hj60 : j ≤ 60) (hN : N ≤ 1000) (x : List UInt8) (hx : x.length ≤ 100) (A0 : Option Addr) (n0 c0 : Nat) (b : List UInt8) (hb : b.length = n0) (hn0 : n0 ≤ 1000) (hrb : Rd w w.heap.size A0 b) :
    Calls Tryz.prog 39 #[.pointer (some ⟨G, 0, none⟩), .agg #[.int .i64 0, sv x, .slice A0 n0 c0]] w (CgPost w B G P D M N j X F own ownD) := by
  obtain ⟨i0, hi0, hz0, hz1, hz2⟩ := info_parts str_info
  obtain ⟨w0, hw0⟩ : ∃ w0, w0 = w.alloc (.cells #[.int .i64 0, sv x, .slice A0 n0 c0] 31) := ⟨_, rfl⟩
  obtain ⟨H, hH⟩ : ∃ H, H = w.heap.size := ⟨_, rfl⟩
  have hb0 : Below w.heap.size w w0 := by rw [hw0]; exact (Below.refl _ _).alloc (Nat.le_refl _) _
  have hbd : Below w.heap.size w w0.drew := hb0.trans ((Below.refl _ _).drew.mono hb0.size)
  have hbdd : Below w.heap.size w w0.drew.drew := hbd.trans ((Below.refl _ _).drew.mono hbd.size)
  have hdr : Below w0.drew.heap.size w0.drew w0.drew.drew := (Below.refl _ _).drew
  have BA := Lib.hid (show Blk w0.drew H [.int .i64 0, sv x, .slice A0 n0 c0] by rw [hw0, hH]; exact (Blk.new w [.int .i64 0, sv x, .slice A0 n0 c0] _).drew)
  have hP0 := h.past hbd
  have hP1 := h.past hbdd
  obtain ⟨A, n, c, A2, n2, c2, A3, n3, c3, A4, n4, c4, h1, h2, h3, h4, h5, h6⟩ := hP0.box
  have HFD := Lib.hid (rfind_any A3 n3 c3 Y.now x w0.drew h4.len (by have := hj.now; have := h4.len; omega) h4.at_.now)
  have c0' := h1.cell (i := 0) rfl
  have c6 := h1.cell (i := 6) rfl
  have a0 := BA.out.cell (i := 0) rfl
  have a1 := BA.out.cell (i := 1) rfl
  have a2 := BA.out.cell (i := 2) rfl
  have k0 := (h1.past hdr).cell (i := 0) rfl
  have k1 := (BA.out.past hdr).cell (i := 1) rfl
  have k1' := (BA.out.past hdr).cell (i := 2) rfl
  have hcs := str_any A0 n0 c0 b w0.drew w.heap.size hb (hrb.below hbd)
  have hrd : Rd w0.drew.drew w0.drew.drew.heap.size A0 b := (hrb.below hbdd).more hbdd.size
  have HP := Lib.hid hP1
  have HL := Lib.hid hL
  have HY := Lib.hid hY
  have HJ := Lib.hid hj
  have HW0 := Lib.hid hw0
  have HH := Lib.hid hH
  have HB0 := Lib.hid hbdd
  have HBA := Lib.hid (BA.out.past hdr)
  have HBL := Lib.hid hb
  have hb10 : b.length ≤ 1000 := by omega
  have HWR := Lib.hid (swrite_any hP1.st x A0 n0 c0 b hb (by omega) hrd (by unfold maxLen; omega))
  obtain ⟨lx, hlx⟩ : ∃ lx, lx = x.length := ⟨_, rfl⟩
  have hsz : (ByteArray.mk x.toArray).size = lx := by rw [hlx]; exact List.size_toArray ..
  have HLX := Lib.hid hlx
  have hHG : H ≠ G := by have := (h.st.lt h.g.1).2; omega
  have hthere := hY.there x
  have HHF := Lib.hid (fun k (hk : Foot P M ownD k) => show k ≠ H from by have := (h.st.lt (h.st.own k hk)).2; omega)
  clear hw0 hH hb0 hbd hbdd hdr h hP0 hP1 hL hY hj h1 h2 h3 h4 h5 h6 hb hrb hrd hlx
  obtain ⟨ti, tb, hfd⟩ : ∃ ti tb, findD Y.now x = (ti, tb) := ⟨_, _, rfl⟩
  rw [hfd] at HFD
  clear hfd hthere
  rcases (show lx = 0 ∨ (1 ≤ lx ∧ lx ≤ 32) ∨ 32 < lx by omega) with hl | ⟨hl, hl'⟩ | hl
  · have l0 : decide ((0 : Int) < (lx : Int)) = false := by simp; omega
    have l1 : decide (0 < lx) = false := by simp; omega
    rw [allow_bad HL.out.up (by have := HLX.out; omega)] at HWR
    clear hl
    go_enter Tryz.func39, Tryz.ntmps39
    go_upto_region 1 with fail
    rw [← HW0.out, ← HH.out]
    go_region_held3 (fun w' => w'.cell? ⟨G, 6, none⟩ = some (.slice A3 n3 c3) ∧ w'.cell? ⟨H, 1, none⟩ = some (sv x)) (first | exact ⟨c6, a1⟩) (first | (go_at_call 40; refine HFD.out.mono ?_; rintro e w' ⟨rfl, rfl⟩))
    go_upto_region 9 with fail
    go_region_held3 (fun w' => w'.cell? ⟨G, 0, none⟩ = some (.pointer (some ⟨P, 0, none⟩)) ∧ w'.cell? ⟨H, 1, none⟩ = some (sv x) ∧ w'.cell? ⟨H, 2, none⟩ = some (.slice A0 n0 c0)) (first | exact ⟨k0, k1, k1'⟩ | exact ⟨k2, k3, k4⟩)
      (first | (go_at_call 33; refine HWR.out.mono ?_; rintro e w3 ⟨rfl, hq⟩; rcases hq with ⟨-, hs3, ho3⟩ | ⟨q, -⟩; rotate_left; exact absurd q (by decide); have HS3 := Lib.hid hs3; have HO3 := Lib.hid ho3; have HP3 := Lib.hid (HP.out.store hs3 (Fol.foot ho3)); have k2 := (HP3.out.st_ptr); have k3 := (HBA.out.out ho3 (fun e => HHF.out _ e rfl)).cell (i := 1) rfl; have k4 := (HBA.out.out ho3 (fun e => HHF.out _ e rfl)).cell (i := 2) rfl; clear hs3 ho3))
    go_wp2_with fail
    go_ret
    exact ⟨X, Y, N, own, rfl, Nat.le_succ _, rfl, rfl, HL.out, HY.out, HJ.out.more, HP3.out, (Out.of_below HB0.out).trans (HP.out.st.foot HO3.out), fun k hk => .inl hk⟩
  · have l0 : decide ((0 : Int) < (lx : Int)) = true := by simp; omega
    have l1 : decide (0 < lx) = true := by simp; omega
    have l2 : decide ((lx : Int) ≤ 32) = true := by simp; omega
    have l3 : decide (lx ≤ 32) = true := by simp; omega
    rw [allow_good HL.out.up (by have := HLX.out; omega) (by omega)] at HWR
    clear hl hl'
    go_enter Tryz.func39, Tryz.ntmps39
    go_upto_region 1 with fail
    rw [← HW0.out, ← HH.out]
    go_region_held3 (fun w' => w'.cell? ⟨G, 6, none⟩ = some (.slice A3 n3 c3) ∧ w'.cell? ⟨H, 1, none⟩ = some (sv x)) (first | exact ⟨c6, a1⟩) (first | (go_at_call 40; refine HFD.out.mono ?_; rintro e w' ⟨rfl, rfl⟩))
    go_upto_region 9 with fail
    go_region_held3 (fun w' => w'.cell? ⟨G, 0, none⟩ = some (.pointer (some ⟨P, 0, none⟩)) ∧ w'.cell? ⟨H, 1, none⟩ = some (sv x) ∧ w'.cell? ⟨H, 2, none⟩ = some (.slice A0 n0 c0)) (first | exact ⟨k0, k1, k1'⟩ | exact ⟨k2, k3, k4⟩)
      (first | (go_at_call 33; refine HWR.out.mono ?_; rintro e w3 ⟨rfl, hq⟩; rcases hq with ⟨q, -⟩ | ⟨-, hs3, ho3⟩; exact absurd rfl q; have HS3 := Lib.hid hs3; have HO3 := Lib.hid ho3; have HP3 := Lib.hid (HP.out.store hs3 (Fol.foot ho3)); have k2 := (HP3.out.st_ptr); have k3 := (HBA.out.out ho3 (fun e => HHF.out _ e rfl)).cell (i := 1) rfl; have k4 := (HBA.out.out ho3 (fun e => HHF.out _ e rfl)).cell (i := 2) rfl; clear hs3 ho3))
    have HOW := Lib.hid (show Out own w w3 from (Out.of_below HB0.out).trans (HP.out.st.foot HO3.out))
    have hbd3 : Below w3.heap.size w3 w3.drew := (Below.refl _ _).drew
    have hP4 := HP3.out.past hbd3
    obtain ⟨A, n, c, A2, n2, c2, A3, n3, c3, A4, n4, c4, h1, h2, h3, h4, h5, h6⟩ := hP4.box
    have HX4 := Lib.hid h1
    have HOK := Lib.hid HS3.out.ok
    have q6 := h1.cell (i := 6) rfl
    have q1 := (HBA.out.out HO3.out (fun e => HHF.out _ e rfl)).past hbd3 |>.cell (i := 1) rfl
    have HBA3 := Lib.hid ((HBA.out.out HO3.out (fun e => HHF.out _ e rfl)).past hbd3)
    have HWO := Lib.hid (rput_any A3 n3 c3 Y.now x (b) w3.drew h4.len (by have := HJ.out.now; have := h4.len; omega) h4.at_.now)
    have HP4 := Lib.hid hP4
    have HOB := Lib.hid (show Out own w w3.drew from HOW.out.trans (.of_below hbd3))
    have hchl : Y.ch.length = n4 := by have := h5.1; rw [List.length_map, Nat.mul_one] at this; exact this
    have hn4 : n4 ≤ 1000 := by have := HJ.out.ch; omega
    clear k2 k3 k4 k0 k1 k1' c0' c6 a0 a1 a2 hbd3 hP4 h1 h2 h3 h4 h5 h6 HWR hchl
    go_upto_region 15 with fail
    go_region_law (first
      | (rw [if_pos (by simp [Region.wanted])]
         go_simp
         go_at_call 67
         refine HWO.out.mono ?_
         rintro e w5 ⟨A5, n5, c5, rfl, hl5, hr5, hb5⟩
         have p1 := (HBA3.out.past hb5).cell (i := 1) rfl
         have g6 := (HX4.out.past hb5).cell (i := 6) rfl
         have f6 := (HX4.out.past hb5).frozen 6
         have HL5 := Lib.hid hl5
         have HR5 := Lib.hid hr5
         have HB5 := Lib.hid hb5
         clear hl5 hr5 hb5))
    all_goals
      have hP5 := HP4.out.past HB5.out
      obtain ⟨A, n, c, A2, n2, c2, A6, n6, c6, A4, n4', c4, h1, h2, h3, h4, h5, h6⟩ := hP5.box
      have hn4' : n4' ≤ 1000 := by
        have := h5.1
        rw [List.length_map, Nat.mul_one] at this
        have := HJ.out.ch
        omega
      have HFB := Lib.hid (show FbK own A5 n5 c5 (putGo x (b) Y.now false) w5 from FbK.of HR5.out HL5.out (fun k hk => (HP4.out.st.lt hk).2))
      have HP5 := Lib.hid hP5
      have H1 := Lib.hid h1
      have H2 := Lib.hid h2
      have H3 := Lib.hid h3
      have H6 := Lib.hid h6
      have hG5 := h1.lt
      have hH5 : H < w5.heap.size := (HBA3.out.past HB5.out).lt
      obtain ⟨we, hwe⟩ : ∃ we, we = w5.setCell ⟨G, 6, none⟩ (.slice A5 n5 c5) := ⟨_, rfl⟩
      have hod : Out (fun k => k = G) w5 we.drew := by rw [hwe]; exact ((Out.refl (fun k => k = G) w5).setCell (p := ⟨G, 6, none⟩) (.inl rfl) _).trans (out_drew _ _)
      have hbx : Blk we.drew G [.pointer (some ⟨P, 0, none⟩), .pointer (some ⟨D, 0, none⟩), .int .u64 (Y.m.version : Int), .int .u32 (Y.m.next : Int), .slice A n c, .slice A2 n2 c2, .slice A5 n5 c5, .slice A4 n4' c4, .bool Y.waits] := by rw [hwe]; exact (h1.set 6 (.slice A5 n5 c5)).drew
      have s7 := hbx.cell (i := 7) rfl
      have HBD := Lib.hid hbx
      have b1 := ((HBA3.out.past HB5.out).out hod hHG).cell (i := 1) rfl
      have HO5 := Lib.hid (own_out h5 hod (fun k hk e => (h6 k hk).2.2 e))
      have hsd : we.drew.heap.size = w5.heap.size := by rw [hwe, World.size_drew, World.size_setCell]
      have hBw : B ≤ w5.heap.size := by have := HP5.out.st.lt HP5.out.g.1; omega
      have HSRC := Lib.hid (str_one we.drew x 9)
      have HMX := Lib.hid (show n4' + 1 ≤ maxLen by unfold maxLen; omega)
      have HSZ := Lib.hid (show B ≤ (we.drew.alloc (.cells #[sv x] 9)).heap.size by rw [World.size_alloc]; omega)
      have hne : (Value.slice A4 n4' c4).ownBlock ≠ some G := fun e => (h6 G e).2.2 rfl
      have HNE := Lib.hid hne
      have hGe : G < we.heap.size := by rw [hwe, World.size_setCell]; exact hG5
      have s7' : we.cell? ⟨G, 7, none⟩ = _ := s7
      have HWE := Lib.hid hwe
      clear hP5 h1 h2 h3 h4 h5 h6 hod hbx q1 q6 p1 g6 f6 hsd hne
      go_upto_region 16 with fail
      rw [← HWE.out]
      clear hwe
      go_region_law (refine step_append_own (w := we.drew.alloc (.cells #[sv x] 9)) rfl (.tmp 90) (.tmp 93) 40 rfl B 9 i0 _ 1 16 Tryz.underlying40 hi0 hz0 hz1 hz2 rfl (by decide) (.slice A4 n4' c4) n4' _ (by simp [Act.eval]) (HO5.out.alloc _) ⟨we.heap.size, 0, none⟩ 1 1 [sv x] (by simp [Act.eval]) rfl HSRC.out (str_cell _) HMX.out (by omega) HSZ.out ?_
                     intro v6 w6 ho6 hg6 hn6
                     obtain ⟨A7, d7, rfl, hnd7⟩ := own_slice' ho6
                     have hb6 := (HBD.out.alloc (.cells #[sv x] 9)).grown hg6 HNE.out
                     have e7 := hb6.cell (i := 7) rfl
                     have e8 := hb6.cell (i := 8) rfl
                     have y7 := hb6.frozen 7
                     have y8 := hb6.frozen 8
                     have HO6 := Lib.hid ho6
                     have HG6 := Lib.hid hg6
                     have HN6 := Lib.hid hn6
                     clear ho6 hg6 hn6 hb6)
      all_goals
        obtain ⟨w9, hw9⟩ : ∃ w9, w9 = (w6.setCell ⟨G, 7, none⟩ (.slice A7 (n4' + 1) d7)).setCell ⟨G, 8, none⟩ (.bool true) := ⟨_, rfl⟩
        have HR := Lib.hid (HP5.out.puts H1.out H2.out H3.out H6.out HFB.out HO6.out (by rw [← HWE.out]; exact HG6.out) (by rw [← HWE.out]; exact HN6.out) hw9)
        have HW9 := Lib.hid hw9
        clear hw9
        go_wp2_with fail
        rw [← HW9.out]
        go_ret
        obtain ⟨own', r1, r2, r3⟩ := HR.out
        exact ⟨{ X with C := setC X.C x (some (b)) }, ⟨Y.m, Y.hv, putGo x (b) Y.now false, Y.ch ++ [x], true⟩, N + 1, own', rfl, Nat.le_refl _, rfl, rfl, HL.out.change HOK.out, HY.out.put x (b), HJ.out.put (by omega), r1,
          (HOB.out.trans (.of_below HB5.out)).trans r2, fun k hk => by
            rcases r3 k hk with q | q
            · exact .inl q
            · right; have := (HOB.out.trans (.of_below HB5.out)).size; omega⟩
  · have l0 : decide ((0 : Int) < (lx : Int)) = true := by simp; omega
    have l1 : decide (0 < lx) = true := by simp; omega
    have l2 : decide ((lx : Int) ≤ 32) = false := by simp; omega
    have l3 : decide (lx ≤ 32) = false := by simp; omega
    rw [allow_bad HL.out.up (by have := HLX.out; omega)] at HWR
    clear hl
    go_enter Tryz.func39, Tryz.ntmps39
    go_upto_region 1 with fail
    rw [← HW0.out, ← HH.out]
    go_region_held3 (fun w' => w'.cell? ⟨G, 6, none⟩ = some (.slice A3 n3 c3) ∧ w'.cell? ⟨H, 1, none⟩ = some (sv x)) (first | exact ⟨c6, a1⟩) (first | (go_at_call 40; refine HFD.out.mono ?_; rintro e w' ⟨rfl, rfl⟩))
    go_upto_region 9 with fail
    go_region_held3 (fun w' => w'.cell? ⟨G, 0, none⟩ = some (.pointer (some ⟨P, 0, none⟩)) ∧ w'.cell? ⟨H, 1, none⟩ = some (sv x) ∧ w'.cell? ⟨H, 2, none⟩ = some (.slice A0 n0 c0)) (first | exact ⟨k0, k1, k1'⟩ | exact ⟨k2, k3, k4⟩)
      (first | (go_at_call 33; refine HWR.out.mono ?_; rintro e w3 ⟨rfl, hq⟩; rcases hq with ⟨-, hs3, ho3⟩ | ⟨q, -⟩; rotate_left; exact absurd q (by decide); have HS3 := Lib.hid hs3; have HO3 := Lib.hid ho3; have HP3 := Lib.hid (HP.out.store hs3 (Fol.foot ho3)); have k2 := (HP3.out.st_ptr); have k3 := (HBA.out.out ho3 (fun e => HHF.out _ e rfl)).cell (i := 1) rfl; have k4 := (HBA.out.out ho3 (fun e => HHF.out _ e rfl)).cell (i := 2) rfl; clear hs3 ho3))
    go_wp2_with fail
    go_ret
    exact ⟨X, Y, N, own, rfl, Nat.le_succ _, rfl, rfl, HL.out, HY.out, HJ.out.more, HP3.out, (Out.of_below HB0.out).trans (HP.out.st.foot HO3.out), fun k hk => .inl hk⟩
end
end Go.Proofs.YtiocpefgccndbaaGreat
end
section
namespace Go.Proofs.YtiocpefgccndbaaGreat
open Go.RowKit Me Mf Rw Ds Va Go.Maps

section
variable {w w' : World} {B G P D M N N' : Nat} {X X' : Sto} {Y Y' : Ply} {own ownD own' ownD' : Nat → Prop} {F : List UInt8 → List UInt8}
theorem str_cat (a b : List UInt8) : Value.string (ByteArray.mk a.toArray ++ ByteArray.mk b.toArray) = sv (a ++ b) := by
  show Value.string _ = Value.string _
  congr 1
set_option maxRecDepth 100000 in
set_option maxHeartbeats 8000000 in
theorem changes_put1 (h : PlayAt w B G P D M N X Y own ownD) (hL : Live X F) (hY : PlyOk X F Y) {j : Nat} (hj : FewY Y j) (hj60 : j ≤ 60) (hN : N ≤ 1000) (x : List UInt8) (hx : x.length ≤ 100) (A0 : Option Addr) (n0 c0 : Nat) (b : List UInt8) (hb : b.length = n0) (hn0 : n0 ≤ 1000) (hrb : Rd w w.heap.size A0 b) :
    Calls Tryz.prog 39 #[.pointer (some ⟨G, 0, none⟩), .agg #[.int .i64 1, sv x, .slice A0 n0 c0]] w (CgPost w B G P D M N j X F own ownD) := by
  obtain ⟨i0, hi0, hz0, hz1, hz2⟩ := info_parts str_info
  obtain ⟨w0, hw0⟩ : ∃ w0, w0 = w.alloc (.cells #[.int .i64 1, sv x, .slice A0 n0 c0] 31) := ⟨_, rfl⟩
  obtain ⟨H, hH⟩ : ∃ H, H = w.heap.size := ⟨_, rfl⟩
  have hb0 : Below w.heap.size w w0 := by rw [hw0]; exact (Below.refl _ _).alloc (Nat.le_refl _) _
  have hbd : Below w.heap.size w w0.drew := hb0.trans ((Below.refl _ _).drew.mono hb0.size)
  have hbdd : Below w.heap.size w w0.drew.drew := hbd.trans ((Below.refl _ _).drew.mono hbd.size)
  have hdr : Below w0.drew.heap.size w0.drew w0.drew.drew := (Below.refl _ _).drew
  have BA := Lib.hid (show Blk w0.drew H [.int .i64 1, sv x, .slice A0 n0 c0] by rw [hw0, hH]; exact (Blk.new w [.int .i64 1, sv x, .slice A0 n0 c0] _).drew)
  have hP0 := h.past hbd
  have hP1 := h.past hbdd
  obtain ⟨A, n, c, A2, n2, c2, A3, n3, c3, A4, n4, c4, h1, h2, h3, h4, h5, h6⟩ := hP0.box
  have HFD := Lib.hid (rfind_any A3 n3 c3 Y.now x w0.drew h4.len (by have := hj.now; have := h4.len; omega) h4.at_.now)
  have c0' := h1.cell (i := 0) rfl
  have c6 := h1.cell (i := 6) rfl
  have a0 := BA.out.cell (i := 0) rfl
  have a1 := BA.out.cell (i := 1) rfl
  have a2 := BA.out.cell (i := 2) rfl
  have k0 := (h1.past hdr).cell (i := 0) rfl
  have k1 := (BA.out.past hdr).cell (i := 1) rfl
  have k1' := (BA.out.past hdr).cell (i := 2) rfl
  have hcs := str_any A0 n0 c0 b w0.drew w.heap.size hb (hrb.below hbd)
  have hrd : Rd w0.drew.drew w0.drew.drew.heap.size A0 b := (hrb.below hbdd).more hbdd.size
  have HP := Lib.hid hP1
  have HL := Lib.hid hL
  have HY := Lib.hid hY
  have HJ := Lib.hid hj
  have HW0 := Lib.hid hw0
  have HH := Lib.hid hH
  have HB0 := Lib.hid hbdd
  have HBA := Lib.hid (BA.out.past hdr)
  have HBL := Lib.hid hb
  have hb10 : b.length ≤ 1000 := by omega
  have HWR := Lib.hid (sappend_any hP1.st x (by omega) A0 n0 c0 b hb (by omega) hrd (by unfold maxLen; omega) (by rw [hL.calm.pend]; show 0 < _; omega))
  obtain ⟨lx, hlx⟩ : ∃ lx, lx = x.length := ⟨_, rfl⟩
  have hsz : (ByteArray.mk x.toArray).size = lx := by rw [hlx]; exact List.size_toArray ..
  have HLX := Lib.hid hlx
  have hHG : H ≠ G := by have := (h.st.lt h.g.1).2; omega
  have hthere := hY.there x
  have HHF := Lib.hid (fun k (hk : Foot P M ownD k) => show k ≠ H from by have := (h.st.lt (h.st.own k hk)).2; omega)
  clear hw0 hH hb0 hbd hbdd hdr h hP0 hP1 hL hY hj h1 h2 h3 h4 h5 h6 hb hrb hrd hlx
  rcases (show lx = 0 ∨ (1 ≤ lx ∧ lx ≤ 32) ∨ 32 < lx by omega) with hl | ⟨hl, hl'⟩ | hl
  · have l0 : decide ((0 : Int) < (lx : Int)) = false := by simp; omega
    have l1 : decide (0 < lx) = false := by simp; omega
    obtain ⟨hh, e1⟩ : hasN X x = false ∧ findD Y.now x = (0, false) := by
      rcases hthere with ⟨hh, -⟩ | q
      · have := hasN_len HL.out.ok hh; have := HLX.out; omega
      · exact q
    rw [e1] at HFD
    rw [app_bad HL.out (by have := HLX.out; omega)] at HWR
    clear hthere hh e1 hl
    go_enter Tryz.func39, Tryz.ntmps39
    go_upto_region 1 with fail
    rw [← HW0.out, ← HH.out]
    go_region_held3 (fun w' => w'.cell? ⟨G, 6, none⟩ = some (.slice A3 n3 c3) ∧ w'.cell? ⟨H, 1, none⟩ = some (sv x)) (first | exact ⟨c6, a1⟩) (first | (go_at_call 40; refine HFD.out.mono ?_; rintro e w' ⟨rfl, rfl⟩))
    go_upto_region 10 with fail
    go_region_held3 (fun w' => w'.cell? ⟨G, 0, none⟩ = some (.pointer (some ⟨P, 0, none⟩)) ∧ w'.cell? ⟨H, 1, none⟩ = some (sv x) ∧ w'.cell? ⟨H, 2, none⟩ = some (.slice A0 n0 c0)) (first | exact ⟨k0, k1, k1'⟩ | exact ⟨k2, k3, k4⟩)
      (first | (go_at_call 34; refine HWR.out.mono ?_; rintro e w3 ⟨rfl, hq⟩; rcases hq with ⟨-, hs3, ho3⟩ | ⟨q, -⟩; rotate_left; exact absurd q (by decide); have HS3 := Lib.hid hs3; have HO3 := Lib.hid ho3; have HP3 := Lib.hid (HP.out.store hs3 (Fol.foot ho3)); have k2 := (HP3.out.st_ptr); have k3 := (HBA.out.out ho3 (fun e => HHF.out _ e rfl)).cell (i := 1) rfl; have k4 := (HBA.out.out ho3 (fun e => HHF.out _ e rfl)).cell (i := 2) rfl; clear hs3 ho3))
    go_wp2_with fail
    go_ret
    exact ⟨X, Y, N, own, rfl, Nat.le_succ _, rfl, rfl, HL.out, HY.out, HJ.out.more, HP3.out, (Out.of_below HB0.out).trans (HP.out.st.foot HO3.out), fun k hk => .inl hk⟩
  · have l0 : decide ((0 : Int) < (lx : Int)) = true := by simp; omega
    have l1 : decide (0 < lx) = true := by simp; omega
    have l2 : decide ((lx : Int) ≤ 32) = true := by simp; omega
    have l3 : decide (lx ≤ 32) = true := by simp; omega
    rcases hthere with ⟨hh, i, f, e1, e2, e3, e4⟩ | ⟨hh, e1⟩
    · have hfl := HJ.out.bn f (List.mem_of_getElem? e2)
      rw [e1] at HFD
      rw [app_good HL.out (by have := HLX.out; omega) (by rw [if_pos hh, ← e4]; omega), if_pos hh, ← e4] at HWR
      have HE2 := Lib.hid e2
      clear hh e1 e3 e4 hl hl' hfl
      go_enter Tryz.func39, Tryz.ntmps39
      go_upto_region 1 with fail
      rw [← HW0.out, ← HH.out]
      go_region_held3 (fun w' => w'.cell? ⟨G, 6, none⟩ = some (.slice A3 n3 c3) ∧ w'.cell? ⟨H, 1, none⟩ = some (sv x)) (first | exact ⟨c6, a1⟩) (first | (go_at_call 40; refine HFD.out.mono ?_; rintro e w' ⟨rfl, rfl⟩))
      go_upto_region 10 with fail
      go_region_held3 (fun w' => w'.cell? ⟨G, 0, none⟩ = some (.pointer (some ⟨P, 0, none⟩)) ∧ w'.cell? ⟨H, 1, none⟩ = some (sv x) ∧ w'.cell? ⟨H, 2, none⟩ = some (.slice A0 n0 c0)) (first | exact ⟨k0, k1, k1'⟩ | exact ⟨k2, k3, k4⟩)
        (first | (go_at_call 34; refine HWR.out.mono ?_; rintro e w3 ⟨rfl, hq⟩; rcases hq with ⟨q, -⟩ | ⟨-, hs3, ho3⟩; exact absurd rfl q; have HS3 := Lib.hid hs3; have HO3 := Lib.hid ho3; have HP3 := Lib.hid (HP.out.store hs3 (Fol.foot ho3)); have k2 := (HP3.out.st_ptr); have k3 := (HBA.out.out ho3 (fun e => HHF.out _ e rfl)).cell (i := 1) rfl; have k4 := (HBA.out.out ho3 (fun e => HHF.out _ e rfl)).cell (i := 2) rfl; clear hs3 ho3))
      have HOW := Lib.hid (show Out own w w3 from (Out.of_below HB0.out).trans (HP.out.st.foot HO3.out))
      have hbd3 : Below w3.heap.size w3 w3.drew := (Below.refl _ _).drew
      have hP4 := HP3.out.past hbd3
      obtain ⟨A', n', c', A2', n2', c2', A3', n3', c3', A4', n4', c4', h1', h2', h3', h4', h5', h6'⟩ := HP3.out.box
      obtain ⟨ai, rfl, u1, u2⟩ := fcl_cells h4'.at_.now e2
      have u6 := h1'.cell (i := 6) rfl
      obtain ⟨fs, hfs⟩ : ∃ fs, fs = f.2.length := ⟨_, rfl⟩
      have hfs1 : (ByteArray.mk f.2.toArray).size = fs := by rw [hfs]; exact List.size_toArray ..
      have hbs1 : (ByteArray.mk b.toArray).size = n0 := by rw [← HBL.out]; exact List.size_toArray ..
      have hfs2 : fs ≤ 1000 * j := by rw [hfs]; exact HJ.out.bn f (List.mem_of_getElem? e2)
      clear hfs
      have hi3 : (i : Int) < (n3' : Int) := by have := (List.getElem?_eq_some_iff.1 e2).1; have := h4'.len; omega
      clear h1' h2' h3' h4' h5' h6'
      obtain ⟨A, n, c, A2, n2, c2, A3, n3, c3, A4, n4, c4, h1, h2, h3, h4, h5, h6⟩ := hP4.box
      have HX4 := Lib.hid h1
      have HOK := Lib.hid HS3.out.ok
      have q6 := h1.cell (i := 6) rfl
      have q1 := (HBA.out.out HO3.out (fun e => HHF.out _ e rfl)).past hbd3 |>.cell (i := 1) rfl
      have HBA3 := Lib.hid ((HBA.out.out HO3.out (fun e => HHF.out _ e rfl)).past hbd3)
      have HWO := Lib.hid (rput_any A3 n3 c3 Y.now x (f.2 ++ b) w3.drew h4.len (by have := HJ.out.now; have := h4.len; omega) h4.at_.now)
      have HP4 := Lib.hid hP4
      have HOB := Lib.hid (show Out own w w3.drew from HOW.out.trans (.of_below hbd3))
      have hchl : Y.ch.length = n4 := by have := h5.1; rw [List.length_map, Nat.mul_one] at this; exact this
      have hn4 : n4 ≤ 1000 := by have := HJ.out.ch; omega
      clear k2 k3 k4 k0 k1 k1' c0' c6 a0 a1 a2 hbd3 hP4 h1 h2 h3 h4 h5 h6 HWR hchl
      go_upto_region 15 with fail
      have hcat : Value.string (ByteArray.mk f.2.toArray ++ ByteArray.mk b.toArray) = sv (f.2 ++ b) := str_cat f.2 b
      rw [hcat]
      clear hcat u1 u2 u6 hi3 hfs1 hbs1
      go_region_law (first
        | (rw [if_pos (by simp [Region.wanted])]
           go_simp
           go_at_call 67
           refine HWO.out.mono ?_
           rintro e w5 ⟨A5, n5, c5, rfl, hl5, hr5, hb5⟩
           have p1 := (HBA3.out.past hb5).cell (i := 1) rfl
           have g6 := (HX4.out.past hb5).cell (i := 6) rfl
           have f6 := (HX4.out.past hb5).frozen 6
           have HL5 := Lib.hid hl5
           have HR5 := Lib.hid hr5
           have HB5 := Lib.hid hb5
           clear hl5 hr5 hb5))
      all_goals
        have hP5 := HP4.out.past HB5.out
        obtain ⟨A, n, c, A2, n2, c2, A6, n6, c6, A4, n4', c4, h1, h2, h3, h4, h5, h6⟩ := hP5.box
        have hn4' : n4' ≤ 1000 := by
          have := h5.1
          rw [List.length_map, Nat.mul_one] at this
          have := HJ.out.ch
          omega
        have HFB := Lib.hid (show FbK own A5 n5 c5 (putGo x (f.2 ++ b) Y.now false) w5 from FbK.of HR5.out HL5.out (fun k hk => (HP4.out.st.lt hk).2))
        have HP5 := Lib.hid hP5
        have H1 := Lib.hid h1
        have H2 := Lib.hid h2
        have H3 := Lib.hid h3
        have H6 := Lib.hid h6
        have hG5 := h1.lt
        have hH5 : H < w5.heap.size := (HBA3.out.past HB5.out).lt
        obtain ⟨we, hwe⟩ : ∃ we, we = w5.setCell ⟨G, 6, none⟩ (.slice A5 n5 c5) := ⟨_, rfl⟩
        have hod : Out (fun k => k = G) w5 we.drew := by rw [hwe]; exact ((Out.refl (fun k => k = G) w5).setCell (p := ⟨G, 6, none⟩) (.inl rfl) _).trans (out_drew _ _)
        have hbx : Blk we.drew G [.pointer (some ⟨P, 0, none⟩), .pointer (some ⟨D, 0, none⟩), .int .u64 (Y.m.version : Int), .int .u32 (Y.m.next : Int), .slice A n c, .slice A2 n2 c2, .slice A5 n5 c5, .slice A4 n4' c4, .bool Y.waits] := by rw [hwe]; exact (h1.set 6 (.slice A5 n5 c5)).drew
        have s7 := hbx.cell (i := 7) rfl
        have HBD := Lib.hid hbx
        have b1 := ((HBA3.out.past HB5.out).out hod hHG).cell (i := 1) rfl
        have HO5 := Lib.hid (own_out h5 hod (fun k hk e => (h6 k hk).2.2 e))
        have hsd : we.drew.heap.size = w5.heap.size := by rw [hwe, World.size_drew, World.size_setCell]
        have hBw : B ≤ w5.heap.size := by have := HP5.out.st.lt HP5.out.g.1; omega
        have HSRC := Lib.hid (str_one we.drew x 9)
        have HMX := Lib.hid (show n4' + 1 ≤ maxLen by unfold maxLen; omega)
        have HSZ := Lib.hid (show B ≤ (we.drew.alloc (.cells #[sv x] 9)).heap.size by rw [World.size_alloc]; omega)
        have hne : (Value.slice A4 n4' c4).ownBlock ≠ some G := fun e => (h6 G e).2.2 rfl
        have HNE := Lib.hid hne
        have hGe : G < we.heap.size := by rw [hwe, World.size_setCell]; exact hG5
        have s7' : we.cell? ⟨G, 7, none⟩ = _ := s7
        have HWE := Lib.hid hwe
        clear hP5 h1 h2 h3 h4 h5 h6 hod hbx q1 q6 p1 g6 f6 hsd hne
        go_upto_region 16 with fail
        rw [← HWE.out]
        clear hwe
        go_region_law (refine step_append_own (w := we.drew.alloc (.cells #[sv x] 9)) rfl (.tmp 90) (.tmp 93) 40 rfl B 9 i0 _ 1 16 Tryz.underlying40 hi0 hz0 hz1 hz2 rfl (by decide) (.slice A4 n4' c4) n4' _ (by simp [Act.eval]) (HO5.out.alloc _) ⟨we.heap.size, 0, none⟩ 1 1 [sv x] (by simp [Act.eval]) rfl HSRC.out (str_cell _) HMX.out (by omega) HSZ.out ?_
                       intro v6 w6 ho6 hg6 hn6
                       obtain ⟨A7, d7, rfl, hnd7⟩ := own_slice' ho6
                       have hb6 := (HBD.out.alloc (.cells #[sv x] 9)).grown hg6 HNE.out
                       have e7 := hb6.cell (i := 7) rfl
                       have e8 := hb6.cell (i := 8) rfl
                       have y7 := hb6.frozen 7
                       have y8 := hb6.frozen 8
                       have HO6 := Lib.hid ho6
                       have HG6 := Lib.hid hg6
                       have HN6 := Lib.hid hn6
                       clear ho6 hg6 hn6 hb6)
        all_goals
          obtain ⟨w9, hw9⟩ : ∃ w9, w9 = (w6.setCell ⟨G, 7, none⟩ (.slice A7 (n4' + 1) d7)).setCell ⟨G, 8, none⟩ (.bool true) := ⟨_, rfl⟩
          have HR := Lib.hid (HP5.out.puts H1.out H2.out H3.out H6.out HFB.out HO6.out (by rw [← HWE.out]; exact HG6.out) (by rw [← HWE.out]; exact HN6.out) hw9)
          have HW9 := Lib.hid hw9
          clear hw9
          go_wp2_with fail
          rw [← HW9.out]
          go_ret
          obtain ⟨own', r1, r2, r3⟩ := HR.out
          exact ⟨{ X with C := setC X.C x (some (f.2 ++ b)) }, ⟨Y.m, Y.hv, putGo x (f.2 ++ b) Y.now false, Y.ch ++ [x], true⟩, N + 1, own', rfl, Nat.le_refl _, rfl, rfl, HL.out.change HOK.out, HY.out.put x (f.2 ++ b), HJ.out.put (by rw [List.length_append]; have := HJ.out.bn f (List.mem_of_getElem? HE2.out); omega), r1,
            (HOB.out.trans (.of_below HB5.out)).trans r2, fun k hk => by
              rcases r3 k hk with q | q
              · exact .inl q
              · right; have := (HOB.out.trans (.of_below HB5.out)).size; omega⟩
    · rw [e1] at HFD
      rw [app_good HL.out (by have := HLX.out; omega) (by rw [if_neg (by rw [hh]; decide)]; simp; omega), if_neg (by rw [hh]; decide), List.nil_append] at HWR
      clear hh e1 hl hl'
      go_enter Tryz.func39, Tryz.ntmps39
      go_upto_region 1 with fail
      rw [← HW0.out, ← HH.out]
      go_region_held3 (fun w' => w'.cell? ⟨G, 6, none⟩ = some (.slice A3 n3 c3) ∧ w'.cell? ⟨H, 1, none⟩ = some (sv x)) (first | exact ⟨c6, a1⟩) (first | (go_at_call 40; refine HFD.out.mono ?_; rintro e w' ⟨rfl, rfl⟩))
      go_upto_region 10 with fail
      go_region_held3 (fun w' => w'.cell? ⟨G, 0, none⟩ = some (.pointer (some ⟨P, 0, none⟩)) ∧ w'.cell? ⟨H, 1, none⟩ = some (sv x) ∧ w'.cell? ⟨H, 2, none⟩ = some (.slice A0 n0 c0)) (first | exact ⟨k0, k1, k1'⟩ | exact ⟨k2, k3, k4⟩)
        (first | (go_at_call 34; refine HWR.out.mono ?_; rintro e w3 ⟨rfl, hq⟩; rcases hq with ⟨q, -⟩ | ⟨-, hs3, ho3⟩; exact absurd rfl q; have HS3 := Lib.hid hs3; have HO3 := Lib.hid ho3; have HP3 := Lib.hid (HP.out.store hs3 (Fol.foot ho3)); have k2 := (HP3.out.st_ptr); have k3 := (HBA.out.out ho3 (fun e => HHF.out _ e rfl)).cell (i := 1) rfl; have k4 := (HBA.out.out ho3 (fun e => HHF.out _ e rfl)).cell (i := 2) rfl; clear hs3 ho3))
      have HOW := Lib.hid (show Out own w w3 from (Out.of_below HB0.out).trans (HP.out.st.foot HO3.out))
      have hbd3 : Below w3.heap.size w3 w3.drew := (Below.refl _ _).drew
      have hP4 := HP3.out.past hbd3
      obtain ⟨A, n, c, A2, n2, c2, A3, n3, c3, A4, n4, c4, h1, h2, h3, h4, h5, h6⟩ := hP4.box
      have HX4 := Lib.hid h1
      have HOK := Lib.hid HS3.out.ok
      have q6 := h1.cell (i := 6) rfl
      have q1 := (HBA.out.out HO3.out (fun e => HHF.out _ e rfl)).past hbd3 |>.cell (i := 1) rfl
      have HBA3 := Lib.hid ((HBA.out.out HO3.out (fun e => HHF.out _ e rfl)).past hbd3)
      have HWO := Lib.hid (rput_any A3 n3 c3 Y.now x (b) w3.drew h4.len (by have := HJ.out.now; have := h4.len; omega) h4.at_.now)
      have HP4 := Lib.hid hP4
      have HOB := Lib.hid (show Out own w w3.drew from HOW.out.trans (.of_below hbd3))
      have hchl : Y.ch.length = n4 := by have := h5.1; rw [List.length_map, Nat.mul_one] at this; exact this
      have hn4 : n4 ≤ 1000 := by have := HJ.out.ch; omega
      clear k2 k3 k4 k0 k1 k1' c0' c6 a0 a1 a2 hbd3 hP4 h1 h2 h3 h4 h5 h6 HWR hchl
      go_upto_region 15 with fail
      go_region_law (first
        | (rw [if_pos (by simp [Region.wanted])]
           go_simp
           go_at_call 67
           refine HWO.out.mono ?_
           rintro e w5 ⟨A5, n5, c5, rfl, hl5, hr5, hb5⟩
           have p1 := (HBA3.out.past hb5).cell (i := 1) rfl
           have g6 := (HX4.out.past hb5).cell (i := 6) rfl
           have f6 := (HX4.out.past hb5).frozen 6
           have HL5 := Lib.hid hl5
           have HR5 := Lib.hid hr5
           have HB5 := Lib.hid hb5
           clear hl5 hr5 hb5))
      all_goals
        have hP5 := HP4.out.past HB5.out
        obtain ⟨A, n, c, A2, n2, c2, A6, n6, c6, A4, n4', c4, h1, h2, h3, h4, h5, h6⟩ := hP5.box
        have hn4' : n4' ≤ 1000 := by
          have := h5.1
          rw [List.length_map, Nat.mul_one] at this
          have := HJ.out.ch
          omega
        have HFB := Lib.hid (show FbK own A5 n5 c5 (putGo x (b) Y.now false) w5 from FbK.of HR5.out HL5.out (fun k hk => (HP4.out.st.lt hk).2))
        have HP5 := Lib.hid hP5
        have H1 := Lib.hid h1
        have H2 := Lib.hid h2
        have H3 := Lib.hid h3
        have H6 := Lib.hid h6
        have hG5 := h1.lt
        have hH5 : H < w5.heap.size := (HBA3.out.past HB5.out).lt
        obtain ⟨we, hwe⟩ : ∃ we, we = w5.setCell ⟨G, 6, none⟩ (.slice A5 n5 c5) := ⟨_, rfl⟩
        have hod : Out (fun k => k = G) w5 we.drew := by rw [hwe]; exact ((Out.refl (fun k => k = G) w5).setCell (p := ⟨G, 6, none⟩) (.inl rfl) _).trans (out_drew _ _)
        have hbx : Blk we.drew G [.pointer (some ⟨P, 0, none⟩), .pointer (some ⟨D, 0, none⟩), .int .u64 (Y.m.version : Int), .int .u32 (Y.m.next : Int), .slice A n c, .slice A2 n2 c2, .slice A5 n5 c5, .slice A4 n4' c4, .bool Y.waits] := by rw [hwe]; exact (h1.set 6 (.slice A5 n5 c5)).drew
        have s7 := hbx.cell (i := 7) rfl
        have HBD := Lib.hid hbx
        have b1 := ((HBA3.out.past HB5.out).out hod hHG).cell (i := 1) rfl
        have HO5 := Lib.hid (own_out h5 hod (fun k hk e => (h6 k hk).2.2 e))
        have hsd : we.drew.heap.size = w5.heap.size := by rw [hwe, World.size_drew, World.size_setCell]
        have hBw : B ≤ w5.heap.size := by have := HP5.out.st.lt HP5.out.g.1; omega
        have HSRC := Lib.hid (str_one we.drew x 9)
        have HMX := Lib.hid (show n4' + 1 ≤ maxLen by unfold maxLen; omega)
        have HSZ := Lib.hid (show B ≤ (we.drew.alloc (.cells #[sv x] 9)).heap.size by rw [World.size_alloc]; omega)
        have hne : (Value.slice A4 n4' c4).ownBlock ≠ some G := fun e => (h6 G e).2.2 rfl
        have HNE := Lib.hid hne
        have hGe : G < we.heap.size := by rw [hwe, World.size_setCell]; exact hG5
        have s7' : we.cell? ⟨G, 7, none⟩ = _ := s7
        have HWE := Lib.hid hwe
        clear hP5 h1 h2 h3 h4 h5 h6 hod hbx q1 q6 p1 g6 f6 hsd hne
        go_upto_region 16 with fail
        rw [← HWE.out]
        clear hwe
        go_region_law (refine step_append_own (w := we.drew.alloc (.cells #[sv x] 9)) rfl (.tmp 90) (.tmp 93) 40 rfl B 9 i0 _ 1 16 Tryz.underlying40 hi0 hz0 hz1 hz2 rfl (by decide) (.slice A4 n4' c4) n4' _ (by simp [Act.eval]) (HO5.out.alloc _) ⟨we.heap.size, 0, none⟩ 1 1 [sv x] (by simp [Act.eval]) rfl HSRC.out (str_cell _) HMX.out (by omega) HSZ.out ?_
                       intro v6 w6 ho6 hg6 hn6
                       obtain ⟨A7, d7, rfl, hnd7⟩ := own_slice' ho6
                       have hb6 := (HBD.out.alloc (.cells #[sv x] 9)).grown hg6 HNE.out
                       have e7 := hb6.cell (i := 7) rfl
                       have e8 := hb6.cell (i := 8) rfl
                       have y7 := hb6.frozen 7
                       have y8 := hb6.frozen 8
                       have HO6 := Lib.hid ho6
                       have HG6 := Lib.hid hg6
                       have HN6 := Lib.hid hn6
                       clear ho6 hg6 hn6 hb6)
        all_goals
          obtain ⟨w9, hw9⟩ : ∃ w9, w9 = (w6.setCell ⟨G, 7, none⟩ (.slice A7 (n4' + 1) d7)).setCell ⟨G, 8, none⟩ (.bool true) := ⟨_, rfl⟩
          have HR := Lib.hid (HP5.out.puts H1.out H2.out H3.out H6.out HFB.out HO6.out (by rw [← HWE.out]; exact HG6.out) (by rw [← HWE.out]; exact HN6.out) hw9)
          have HW9 := Lib.hid hw9
          clear hw9
          go_wp2_with fail
          rw [← HW9.out]
          go_ret
          obtain ⟨own', r1, r2, r3⟩ := HR.out
          exact ⟨{ X with C := setC X.C x (some (b)) }, ⟨Y.m, Y.hv, putGo x (b) Y.now false, Y.ch ++ [x], true⟩, N + 1, own', rfl, Nat.le_refl _, rfl, rfl, HL.out.change HOK.out, HY.out.put x (b), HJ.out.put (by omega), r1,
            (HOB.out.trans (.of_below HB5.out)).trans r2, fun k hk => by
              rcases r3 k hk with q | q
              · exact .inl q
              · right; have := (HOB.out.trans (.of_below HB5.out)).size; omega⟩
  · have l0 : decide ((0 : Int) < (lx : Int)) = true := by simp; omega
    have l1 : decide (0 < lx) = true := by simp; omega
    have l2 : decide ((lx : Int) ≤ 32) = false := by simp; omega
    have l3 : decide (lx ≤ 32) = false := by simp; omega
    obtain ⟨hh, e1⟩ : hasN X x = false ∧ findD Y.now x = (0, false) := by
      rcases hthere with ⟨hh, -⟩ | q
      · have := hasN_len HL.out.ok hh; have := HLX.out; omega
      · exact q
    rw [e1] at HFD
    rw [app_bad HL.out (by have := HLX.out; omega)] at HWR
    clear hthere hh e1 hl
    go_enter Tryz.func39, Tryz.ntmps39
    go_upto_region 1 with fail
    rw [← HW0.out, ← HH.out]
    go_region_held3 (fun w' => w'.cell? ⟨G, 6, none⟩ = some (.slice A3 n3 c3) ∧ w'.cell? ⟨H, 1, none⟩ = some (sv x)) (first | exact ⟨c6, a1⟩) (first | (go_at_call 40; refine HFD.out.mono ?_; rintro e w' ⟨rfl, rfl⟩))
    go_upto_region 10 with fail
    go_region_held3 (fun w' => w'.cell? ⟨G, 0, none⟩ = some (.pointer (some ⟨P, 0, none⟩)) ∧ w'.cell? ⟨H, 1, none⟩ = some (sv x) ∧ w'.cell? ⟨H, 2, none⟩ = some (.slice A0 n0 c0)) (first | exact ⟨k0, k1, k1'⟩ | exact ⟨k2, k3, k4⟩)
      (first | (go_at_call 34; refine HWR.out.mono ?_; rintro e w3 ⟨rfl, hq⟩; rcases hq with ⟨-, hs3, ho3⟩ | ⟨q, -⟩; rotate_left; exact absurd q (by decide); have HS3 := Lib.hid hs3; have HO3 := Lib.hid ho3; have HP3 := Lib.hid (HP.out.store hs3 (Fol.foot ho3)); have k2 := (HP3.out.st_ptr); have k3 := (HBA.out.out ho3 (fun e => HHF.out _ e rfl)).cell (i := 1) rfl; have k4 := (HBA.out.out ho3 (fun e => HHF.out _ e rfl)).cell (i := 2) rfl; clear hs3 ho3))
    go_wp2_with fail
    go_ret
    exact ⟨X, Y, N, own, rfl, Nat.le_succ _, rfl, rfl, HL.out, HY.out, HJ.out.more, HP3.out, (Out.of_below HB0.out).trans (HP.out.st.foot HO3.out), fun k hk => .inl hk⟩
end
end Go.Proofs.YtiocpefgccndbaaGreat
end
section
namespace Go.Proofs.YtiocpefgccndbaaGreat
open Go.RowKit Me Mf Rw Ds Va Go.Maps

section
variable {w w' : World} {B G P D M N N' : Nat} {X X' : Sto} {Y Y' : Ply} {own ownD own' ownD' : Nat → Prop} {F : List UInt8 → List UInt8}
theorem changes_any (h : PlayAt w B G P D M N X Y own ownD) (hL : Live X F) (hY : PlyOk X F Y) {j : Nat} (hj : FewY Y j) (hj60 : j ≤ 60) (hN : N ≤ 1000) (z : Int) (x : List UInt8) (hx : x.length ≤ 100) (A0 : Option Addr) (n0 c0 : Nat) (b : List UInt8) (hb : b.length = n0) (hn0 : n0 ≤ 1000) (hrb : Rd w w.heap.size A0 b) :
    Calls Tryz.prog 39 #[.pointer (some ⟨G, 0, none⟩), .agg #[.int .i64 z, sv x, .slice A0 n0 c0]] w (CgPost w B G P D M N j X F own ownD) := by
  by_cases h0 : z = 0
  · subst h0
    exact changes_put0 h hL hY hj hj60 hN x hx A0 n0 c0 b hb hn0 hrb
  · by_cases h1 : z = 1
    · subst h1
      exact changes_put1 h hL hY hj hj60 hN x hx A0 n0 c0 b hb hn0 hrb
    · by_cases h2 : z = 2
      · subst h2
        exact changes_remove h hL hY hj hj60 hN x hx A0 n0 c0
      · exact changes_forget h hL hY hj hj60 z ⟨h0, h1, h2⟩ x A0 n0 c0
/-- A play, wherever its store is: with at most so many acts behind it. -/
def PlayIs (w : World) (B G D j : Nat) (X : Sto) (Y : Ply) : Prop := ∃ P M N own ownD, N ≤ j ∧ B ≤ w.heap.size ∧ PlayAt w B G P D M N X Y own ownD
theorem PlayIs.past {j : Nat} (h : PlayIs w B G D j X Y) (hb : Below w.heap.size w w') : PlayIs w' B G D j X Y := by
  obtain ⟨P, M, N, own, ownD, h1, h2, h3⟩ := h
  exact ⟨P, M, N, own, ownD, h1, Nat.le_trans h2 hb.size, h3.past hb⟩
/-- What an act of a play leads to. -/
def DoPost (w : World) (B G D j cn : Nat) (e : Ending) (w' : World) : Prop :=
  ∃ X' Y' F', e = .returned (.bool true) ∧ Rest X' F' ∧ PlyOk X' F' Y' ∧ FewY Y' (j + 1) ∧ X'.S.stored.length = cn ∧ PlayIs w' B G D (j + 1) X' Y' ∧ Below B w w' ∧ w.heap.size < w'.heap.size
theorem PlayAt.below (h : PlayAt w B G P D M N X Y own ownD) (ho : Out own w w') : Below B w w' := ho.below (fun k _ hk => (h.st.lt hk).1) (by have := h.st.lt h.g.1; omega)
/-- The store is opened anew: what lies beside it. -/
theorem PlayAt.anew (h : PlayAt w B G P D M N X Y own ownD) {P' M' : Nat} (hs : StoreAt w' B P' D M' N' X' own' ownD') (ho : Out ownD w w') (h1 : ∀ k, own' k → own k ∨ w.heap.size ≤ k) (h2 : ∀ k, own k → own' k) (h3 : ∀ k, ownD' k → ownD k ∨ w.heap.size ≤ k) (hP : w.heap.size ≤ P') (hM : w.heap.size ≤ M') :
    PlayAt (w'.setCell ⟨G, 0, none⟩ (.pointer (some ⟨P', 0, none⟩))) B G P' D M' N' X' Y own' ownD' ∧ Out own w (w'.setCell ⟨G, 0, none⟩ (.pointer (some ⟨P', 0, none⟩))) := by
  obtain ⟨A, n, c, A2, n2, c2, A3, n3, c3, A4, n4, c4, g1, g2, g3, g4, g5, g6⟩ := h.box
  have hG := h.st.lt h.g.1
  have hoo : Out own w w' := ho.more fun k _ hk => h.st.own k (.inr (.inr hk))
  have hgD : ¬ ownD G := fun e => h.g.2 (.inr (.inr e))
  have hg' : own' G ∧ ¬ Foot P' M' ownD' G := ⟨h2 _ h.g.1, fun e => by
    rcases e with e | e | e
    · omega
    · omega
    · rcases h3 _ e with q | q
      · exact hgD q
      · omega⟩
  have hf : ∀ k, own k → ¬ Foot P M ownD k → ¬ Foot P' M' ownD' k := fun k hk hn e => by
    have hk2 := (h.st.lt hk).2
    rcases e with e | e | e
    · omega
    · omega
    · rcases h3 _ e with q | q
      · exact hn (.inr (.inr q))
      · omega
  have hst : Out (fun k => k = G) w' (w'.setCell ⟨G, 0, none⟩ (.pointer (some ⟨P', 0, none⟩))) := (Out.refl (fun k => k = G) w').setCell (p := ⟨G, 0, none⟩) (.inl rfl) _
  have hso : Out own' w' (w'.setCell ⟨G, 0, none⟩ (.pointer (some ⟨P', 0, none⟩))) := hst.more fun k _ hk => by rw [hk]; exact hg'.1
  have hb := (g1.out ho hgD).set 0 (.pointer (some ⟨P', 0, none⟩))
  refine ⟨⟨hs.kept hst (fun k _ hk => by rw [hk]; exact hg'), ⟨A, n, c, A2, n2, c2, A3, n3, c3, A4, n4, c4, hb, (g2.next hoo h1).out hso, (g3.next hoo h1).out hso, (g4.next hoo h1).out hso, own_out (own_out g5 ho fun k hk e => (g6 k hk).2.1 (.inr (.inr e))) hst fun k hk e => (g6 k hk).2.2 e, fun k hk => ?_⟩, hg'⟩, hoo.trans (hst.more fun k _ hk => by rw [hk]; exact h.g.1)⟩
  obtain ⟨q1, q2, q3⟩ := g6 k hk
  exact ⟨h2 k q1, hf k q1 q2, q3⟩
/-- .. it does a commit. -/
theorem commit_rest (hr : Rest X F) {ok : Bool} {r : Int} (hY : PlyOk X F Y) {j : Nat} (hj : FewY Y j) (h : CmtP X Y X' Y' ok r) : ok = true ∧ (r = 0 ∨ r = 7) ∧ X'.S.stored.length = X.S.stored.length ∧ ∃ F', Rest X' F' ∧ PlyOk X' F' Y' ∧ FewY Y' (j + 1) := by
  rcases h with ⟨-, rfl, rfl, rfl, rfl⟩ | ⟨-, -, rfl, rfl, rfl, rfl⟩ | ⟨-, m, h1, h2, h3, -⟩ | ⟨-, m, h1, h2, h3, rfl, rfl, rfl, rfl⟩
  · exact ⟨rfl, .inl rfl, rfl, F, hr, hY, hj.more⟩
  · exact ⟨rfl, .inr rfl, rfl, F, hr, hY, hj.more⟩
  · exact absurd (hr.commit h1 h2).1 h3
  · refine ⟨rfl, .inl rfl, putD_size X m, newF X.C F, (hr.commit h1 h2).2, hY.commit h1 _ _, ?_⟩
    have hv : m.version ≤ j + 1 := by
      have hp := h1.1
      unfold St.planD at hp
      cases hq : St.planL X.m.files (listC X (namesF Y.now)) (St.freeM X.S.stored.length X.m.files) X.m.next with
      | none => rw [hq] at hp; cases hp
      | some q =>
        rw [hq] at hp
        injection hp with hp
        have := hj.ver
        rw [hY.m] at this
        rw [← hp]
        show X.m.version + 1 ≤ j + 1
        omega
    exact ⟨by have := hj.now; show Y.now.length ≤ _; omega, by have := hj.now; show Y.now.length ≤ _; omega, Nat.zero_le _, hv, fun f hf => by have := hj.bn f hf; omega, fun f hf => by have := hj.bn f hf; omega⟩
set_option maxRecDepth 100000 in
set_option maxHeartbeats 4000000 in
theorem does_commit {j : Nat} (h : PlayIs w B G D j X Y) (hr : Rest X F) (hY : PlyOk X F Y) (hj : FewY Y j) (hj60 : j ≤ 60) (x : List UInt8) (A0 : Option Addr) (n0 c0 : Nat) :
    Calls Tryz.prog 12 #[.pointer (some ⟨G, 0, none⟩), .agg #[.int .i64 3, sv x, .slice A0 n0 c0]] w (DoPost w B G D j X.S.stored.length) := by
  obtain ⟨P, M, N, own, ownD, hN, hBw, h⟩ := h
  obtain ⟨w0, hw0⟩ : ∃ w0, w0 = w.alloc (.cells #[.int .i64 3, sv x, .slice A0 n0 c0] 31) := ⟨_, rfl⟩
  have hb0 : Below w.heap.size w w0 := by rw [hw0]; exact (Below.refl _ _).alloc (Nat.le_refl _) _
  have HCO := Lib.hid (commits_any (h.past hb0) hr.up hY hj hj60 (by omega) (by rw [hr.calm.pend]; show 0 + 4096 ≤ _; omega))
  have HP := Lib.hid h
  have HR := Lib.hid hr
  have HY := Lib.hid hY
  have HJ := Lib.hid hj
  have HW0 := Lib.hid hw0
  have HB0 := Lib.hid hb0
  have HS0 := Lib.hid (show w0.heap.size = w.heap.size + 1 by rw [hw0]; exact World.size_alloc _ _)
  clear h hr hY hj hw0 hb0
  go_enter Tryz.func12, Tryz.ntmps12
  go_upto_region 3 with fail
  rw [← HW0.out]
  go_upto_region 4 with (go_at_call 38; refine HCO.out.mono ?_; rintro e w3 ⟨X', Y', ok, r, own', ownD', rfl, hcp, hp3, ho3, hn3⟩)
  obtain ⟨rfl, hr7, hsz, F', hr', hY', hj'⟩ := commit_rest HR.out HY.out HJ.out hcp
  have HF := Lib.hid (And.intro hr' (And.intro hY' (And.intro hj' hsz)))
  have HP3 := Lib.hid hp3
  have HO3 := Lib.hid (show Out own w w3 from (Out.of_below HB0.out).trans ho3)
  have HS3 := Lib.hid (show w.heap.size < w3.heap.size by have := HS0.out; have := ho3.size; omega)
  clear hsz hr' hY' hj' hp3 ho3 hn3 hcp
  rcases hr7 with rfl | rfl
  all_goals
    go_wp2_with fail
    go_ret
    exact ⟨X', Y', F', rfl, HF.out.1, HF.out.2.1, HF.out.2.2.1, HF.out.2.2.2, ⟨P, M, N, own', ownD', by omega, by have := HO3.out.size; omega, HP3.out⟩, HP.out.below HO3.out, HS3.out⟩
end
end Go.Proofs.YtiocpefgccndbaaGreat
end
section
namespace Go.Proofs.YtiocpefgccndbaaGreat
open Go.RowKit Me Mf Rw Ds Va Go.Maps

section
variable {w w' : World} {B G P D M N N' : Nat} {X X' : Sto} {Y Y' : Ply} {own ownD own' ownD' : Nat → Prop} {F : List UInt8 → List UInt8}
theorem Rest.of {X' : Sto} (hr : Rest X F) (hS : X'.S = X.S) (hm : X'.m = X.m) (hL : Live X' F) : Rest X' F :=
  ⟨hL.calm, hL.on, by rw [hS]; exact hr.fuse, hL.ok, hL.live, hL.holds, by rw [hS, hm]; exact hr.slots⟩
set_option maxRecDepth 100000 in
set_option maxHeartbeats 4000000 in
theorem does_changes {j : Nat} (h : PlayIs w B G D j X Y) (hr : Rest X F) (hY : PlyOk X F Y) (hj : FewY Y j) (hj60 : j ≤ 60) (z : Int) (hz : z = 0 ∨ z = 1 ∨ z = 2 ∨ z = 4) (x : List UInt8) (hx : x.length ≤ 100) (A0 : Option Addr) (n0 c0 : Nat) (b : List UInt8) (hb : b.length = n0) (hn0 : n0 ≤ 1000) (hrb : Rd w w.heap.size A0 b) :
    Calls Tryz.prog 12 #[.pointer (some ⟨G, 0, none⟩), .agg #[.int .i64 z, sv x, .slice A0 n0 c0]] w (DoPost w B G D j X.S.stored.length) := by
  obtain ⟨P, M, N, own, ownD, hN, hBw, h⟩ := h
  obtain ⟨w0, hw0⟩ : ∃ w0, w0 = w.alloc (.cells #[.int .i64 z, sv x, .slice A0 n0 c0] 31) := ⟨_, rfl⟩
  have hb0 : Below w.heap.size w w0 := by rw [hw0]; exact (Below.refl _ _).alloc (Nat.le_refl _) _
  have HCH := Lib.hid (changes_any (h.past hb0) hr.lives hY hj hj60 (by omega) z x hx A0 n0 c0 b hb hn0 ((hrb.below hb0).more hb0.size))
  obtain ⟨a0, a1, a2⟩ : w0.cell? ⟨w.heap.size, 0, none⟩ = some (.int .i64 z) ∧ w0.cell? ⟨w.heap.size, 1, none⟩ = some (sv x) ∧ w0.cell? ⟨w.heap.size, 2, none⟩ = some (.slice A0 n0 c0) := by
    have hbk : Blk w0 w.heap.size [.int .i64 z, sv x, .slice A0 n0 c0] := by rw [hw0]; exact Blk.new w [.int .i64 z, sv x, .slice A0 n0 c0] _
    exact ⟨hbk.cell rfl, hbk.cell rfl, hbk.cell rfl⟩
  have HP := Lib.hid h
  have HR := Lib.hid hr
  have HW0 := Lib.hid hw0
  have HB0 := Lib.hid hb0
  have HS0 := Lib.hid (show w0.heap.size = w.heap.size + 1 by rw [hw0]; exact World.size_alloc _ _)
  clear h hr hY hj hw0 hb0 hb hrb
  rcases hz with rfl | rfl | rfl | rfl
  all_goals
    go_enter Tryz.func12, Tryz.ntmps12
    go_upto_region 1 with fail
    rw [← HW0.out]
    go_wp2_with (go_at_call 39; refine HCH.out.mono ?_; rintro e w3 ⟨X', Y', N', own', rfl, hN', hS, hm, hL', hY', hj', hp3, ho3, hn3⟩; have HF := Lib.hid (And.intro (HR.out.of hS hm hL') (And.intro hY' (And.intro hj' (show X'.S.stored.length = X.S.stored.length by rw [hS])))); have HP3 := Lib.hid hp3; have HO3 := Lib.hid (show Out own w w3 from (Out.of_below HB0.out).trans ho3); have HSI := Lib.hid (show w.heap.size < w3.heap.size by have := HS0.out; have := ho3.size; omega); clear hS hm hL' hY' hj' hp3 ho3 hn3)
    go_ret
    exact ⟨X', Y', F, rfl, HF.out.1, HF.out.2.1, HF.out.2.2.1, HF.out.2.2.2, ⟨P, M, N', own', ownD, by omega, by have := HO3.out.size; omega, HP3.out⟩, HP.out.below HO3.out, HSI.out⟩
set_option maxRecDepth 100000 in
set_option maxHeartbeats 4000000 in
theorem does_open {j : Nat} (h : PlayIs w B G D j X Y) (hr : Rest X F) (hY : PlyOk X F Y) (hj : FewY Y j) (hj60 : j ≤ 60) (x : List UInt8) (A0 : Option Addr) (n0 c0 : Nat) :
    Calls Tryz.prog 12 #[.pointer (some ⟨G, 0, none⟩), .agg #[.int .i64 5, sv x, .slice A0 n0 c0]] w (DoPost w B G D j X.S.stored.length) := by
  obtain ⟨P, M, N, own, ownD, hN, hBw, h⟩ := h
  obtain ⟨w0, hw0⟩ : ∃ w0, w0 = w.alloc (.cells #[.int .i64 5, sv x, .slice A0 n0 c0] 31) := ⟨_, rfl⟩
  have hb0 : Below w.heap.size w w0 := by rw [hw0]; exact (Below.refl _ _).alloc (Nat.le_refl _) _
  have hP0 := h.past hb0
  obtain ⟨T, Z, hT, hZ, hans⟩ := hr.read
  have hmr := mread_any hP0.st.disk (show X.S.pend.length < 4611686018427387904 by rw [hr.calm.pend]; show 0 < _; omega) hT hZ
  rw [hans] at hmr
  have HOP := Lib.hid (open_good (own := own) hP0.st.disk (fun k hk => hP0.st.own k (.inr (.inr hk))) (fun k hk => hP0.st.lt hk) hmr hr.ok.fit hr.ok.wf hr.ok.disk hr.ok.big (by rw [hr.calm.pend]; show 0 + 64 ≤ _; omega))
  obtain ⟨A, n, c, A2, n2, c2, A3, n3, c3, A4, n4, c4, h1, -⟩ := hP0.box
  have c1 := h1.cell (i := 1) rfl
  have H1 := Lib.hid h1
  have hgD : ¬ ownD G := fun e => hP0.g.2 (.inr (.inr e))
  have HGD := Lib.hid hgD
  have HP := Lib.hid h
  have HP0 := Lib.hid hP0
  have HR := Lib.hid hr
  have HY := Lib.hid hY
  have HJ := Lib.hid hj
  have HW0 := Lib.hid hw0
  have HB0 := Lib.hid hb0
  have HS0 := Lib.hid (show w0.heap.size = w.heap.size + 1 by rw [hw0]; exact World.size_alloc _ _)
  clear h hr hY hj hw0 hb0 hP0 hT hZ hans hmr h1 hgD
  go_enter Tryz.func12, Tryz.ntmps12
  go_upto_region 6 with fail
  rw [← HW0.out]
  go_upto_region 7 with (go_at_call 20; refine HOP.out.mono ?_; intro e w3 hop; obtain ⟨P', M', own', ownD', S', rfl, hst, hr', hsz, ho3, hn3, hi3, hd3, hP3, hM3⟩ := hop.rest HR.out; have hx3 := H1.out.out ho3 HGD.out; have e0 := hx3.cell (i := 0) rfl; have f0 := hx3.frozen 0; have HR' := Lib.hid hr'; have HSS := Lib.hid hsz; have HAN := Lib.hid (HP0.out.anew hst ho3 hn3 hi3 hd3 hP3 hM3); have HO3 := Lib.hid (HP0.out.st.foot (ho3.more fun k _ hk => .inr (.inr hk))); have HSI := Lib.hid (show w.heap.size < w3.heap.size by have := HS0.out; have := ho3.size; omega); have HN3 := Lib.hid hn3; clear hop hst hr' hsz ho3 hn3 hi3 hd3 hP3 hM3 hx3)
  clear c1
  go_upto_region 10 with fail
  obtain ⟨w4, hw4⟩ : ∃ w4, w4 = w3.setCell ⟨G, 0, none⟩ (.pointer (some ⟨P', 0, none⟩)) := ⟨_, rfl⟩
  have HS34 := Lib.hid (show w3.heap.size = w4.heap.size by rw [hw4, World.size_setCell])
  rw [← hw4] at HAN ⊢
  obtain ⟨hp4, ho4⟩ := HAN.out
  obtain ⟨A, n, c, A2, n2, c2, A3, n3, c3, A4, n4, c4, h1, h2, h3, h4, h5, h6⟩ := hp4.box
  have s5 := h1.cell (i := 5) rfl
  have s6 := h1.cell (i := 6) rfl
  have s7 := h1.cell (i := 7) rfl
  have s8 := h1.cell (i := 8) rfl
  have t6 := h1.frozen 6
  have t7 := h1.frozen 7
  have t8 := h1.frozen 8
  have hG4 := h1.lt
  obtain ⟨w9, hw9⟩ : ∃ w9, w9 = (((w4.setCell ⟨G, 6, none⟩ (.slice A2 n2 c2)).setCell ⟨G, 7, none⟩ (.slice (some ⟨w4.heap.size, 0, none⟩) 0 0)).setCell ⟨G, 8, none⟩ (.bool false)).alloc (.cells #[] 9) := ⟨_, rfl⟩
  obtain ⟨r1, r2⟩ := hp4.reset h1 h2 h3 hw9
  have HR1 := Lib.hid r1
  have HR2 := Lib.hid r2
  have HW9 := Lib.hid hw9
  have HO4 := Lib.hid (show Out own w w4 from (Out.of_below HB0.out).trans ho4)
  have HG4 := Lib.hid hp4.g
  clear hw4 hp4 ho4 h1 h2 h3 h4 h5 h6 r1 r2 hw9 e0 f0
  go_wp2_with fail
  rw [← HW9.out]
  go_ret
  have ho9 : Out own w w9 := HO4.out.trans (HR2.out.more fun k _ hk => by rw [hk]; exact HP.out.g.1)
  exact ⟨⟨S', X.m, noC, false⟩, ⟨Y.m, Y.hv, Y.hv, [], false⟩, F, rfl, HR'.out, HY.out.forget HR.out.ok.fit S' false, HJ.out.forget.more, HSS.out, ⟨P', M', 0, fun k => own' k ∨ k = w4.heap.size, ownD', Nat.zero_le _, by have := ho9.size; omega, HR1.out⟩, HP.out.below ho9, by have h1 := HSI.out; have h2 : w3.heap.size = w4.heap.size := HS34.out; have h3 := HR2.out.size; omega⟩
set_option maxRecDepth 100000 in
set_option maxHeartbeats 4000000 in
theorem does_read {j : Nat} (h : PlayIs w B G D j X Y) (hr : Rest X F) (hY : PlyOk X F Y) (hj : FewY Y j) (hj60 : j ≤ 60) (z : Int) (hz : z ≠ 0 ∧ z ≠ 1 ∧ z ≠ 2 ∧ z ≠ 3 ∧ z ≠ 4 ∧ z ≠ 5) (x : List UInt8) (hx : x.length ≤ 100) (A0 : Option Addr) (n0 c0 : Nat) :
    Calls Tryz.prog 12 #[.pointer (some ⟨G, 0, none⟩), .agg #[.int .i64 z, sv x, .slice A0 n0 c0]] w (DoPost w B G D j X.S.stored.length) := by
  obtain ⟨P, M, N, own, ownD, hN, hBw, h⟩ := h
  obtain ⟨w0, hw0⟩ : ∃ w0, w0 = w.alloc (.cells #[.int .i64 z, sv x, .slice A0 n0 c0] 31) := ⟨_, rfl⟩
  obtain ⟨H, hH⟩ : ∃ H, H = w.heap.size := ⟨_, rfl⟩
  have hb0 : Below w.heap.size w w0 := by rw [hw0]; exact (Below.refl _ _).alloc (Nat.le_refl _) _
  have hbd : Below w.heap.size w w0.drew := hb0.trans ((Below.refl _ _).drew.mono hb0.size)
  have hP0 := h.past hbd
  have BA0 : Blk w0 H [.int .i64 z, sv x, .slice A0 n0 c0] := by rw [hw0, hH]; exact Blk.new w [.int .i64 z, sv x, .slice A0 n0 c0] _
  have BA := Lib.hid BA0.drew
  have a0 := BA0.cell (i := 0) rfl
  have a1 := BA.out.cell (i := 1) rfl
  have k0 := hP0.st_ptr
  have HRD := Lib.hid (sread_any hP0.st x (by omega) (by rw [hr.calm.pend]; show 0 < _; omega))
  rw [hr.reads] at HRD
  have d0 : (z == 0) = false := by rw [beq_eq_false_iff_ne]; exact hz.1
  have d1 : (z == 1) = false := by rw [beq_eq_false_iff_ne]; exact hz.2.1
  have d2 : (z == 2) = false := by rw [beq_eq_false_iff_ne]; exact hz.2.2.1
  have d3 : (z == 3) = false := by rw [beq_eq_false_iff_ne]; exact hz.2.2.2.1
  have d4 : (z == 4) = false := by rw [beq_eq_false_iff_ne]; exact hz.2.2.2.2.1
  have d5 : (z == 5) = false := by rw [beq_eq_false_iff_ne]; exact hz.2.2.2.2.2
  have hthere := hY.there x
  have HP := Lib.hid h
  have HP0 := Lib.hid hP0
  have HR := Lib.hid hr
  have HY := Lib.hid hY
  have HJ := Lib.hid hj
  have HW0 := Lib.hid hw0
  have HHE := Lib.hid hH
  have HB0 := Lib.hid hbd
  have HS0 := Lib.hid (show w0.drew.heap.size = w.heap.size + 1 by rw [hw0]; exact World.size_alloc _ _)
  clear h hr hY hj hw0 hb0 hbd hP0 hz hH BA0
  rcases hthere with ⟨hh, i, f, e1, e2, e3, e4⟩ | ⟨hh, e1⟩
  · rw [if_pos hh] at HRD
    have HE := Lib.hid (And.intro e1 (And.intro e2 e4))
    clear e1 e2 e3 e4 hh
    go_enter Tryz.func12, Tryz.ntmps12
    go_upto_region 1 with fail
    rw [← HW0.out, ← HHE.out]
    go_upto_region 19 with fail
    go_region_held3 (fun w' => w'.cell? ⟨G, 0, none⟩ = some (.pointer (some ⟨P, 0, none⟩)) ∧ w'.cell? ⟨H, 1, none⟩ = some (sv x)) (first | exact ⟨k0, a1⟩ | exact ⟨k2, k3⟩)
      (first | (go_at_call 30; refine HRD.out.mono ?_; rintro e w3 ⟨A5, n5, c5, rfl, ho5, hb5⟩; have k2 := (HP0.out.past hb5).st_ptr; have k3 := (BA.out.past hb5).cell (i := 1) rfl; have HO5 := Lib.hid ho5; have HB5 := Lib.hid hb5; clear ho5 hb5))
    have hbd : Below w3.heap.size w3 w3.drew := (Below.refl _ _).drew
    have hP3 := HP0.out.past (HB5.out.trans (hbd.mono HB5.out.size))
    obtain ⟨A, n, c, A2, n2, c2, A3, n3, c3, A4, n4, c4, h1, h2, h3, h4, h5, h6⟩ := hP3.box
    have HFD := Lib.hid (rfind_any A3 n3 c3 Y.now x w3.drew h4.len (by have := HJ.out.now; have := h4.len; omega) h4.at_.now)
    rw [HE.out.1] at HFD
    have q6 := h1.cell (i := 6) rfl
    have q1 := (BA.out.past (HB5.out.trans (hbd.mono HB5.out.size))).cell (i := 1) rfl
    have HLT := Lib.hid (show Below B w w3.drew from ((HP.out.below (Out.of_below HB0.out)).trans (Below.mono HB5.out (by have := HB0.out.size; omega))).trans (hbd.mono (by have := HB0.out.size; have := HB5.out.size; omega)))
    have HSI := Lib.hid (show w.heap.size < w3.heap.size by have := HS0.out; have := HB5.out.size; omega)
    have HSZ := Lib.hid (show B ≤ w3.heap.size by have := HB0.out.size; have := HB5.out.size; omega)
    obtain ⟨ai, rfl, u1, u2⟩ := fcl_cells h4.at_.now HE.out.2.1
    have hi3 : (i : Int) < (n3 : Int) := by have := (List.getElem?_eq_some_iff.1 HE.out.2.1).1; have := h4.len; omega
    rw [HE.out.2.2] at u2
    have q6d : w3.drew.drew.cell? ⟨G, 6, none⟩ = _ := q6
    have u2d : w3.drew.drew.cell? ⟨(ai.add (i * 2)).block, (ai.add (i * 2)).off + 1, none⟩ = _ := u2
    obtain ⟨l, hl⟩ : ∃ l, l = newF X.C F x := ⟨_, rfl⟩
    rw [← hl] at HO5 u2 u2d
    have hn5 : l.length = n5 := by have := HO5.out.1; rw [cellsOf_length, Nat.mul_one] at this; exact this
    have hcs := str_any A5 n5 c5 l w3.drew.drew w3.heap.size hn5 ((Rd.of_own HO5.out).below ((hbd.trans (Below.refl _ _).drew)))
    have HP3 := Lib.hid (hP3.past (Below.refl _ _).drew)
    clear hP3 h1 h2 h3 h4 h5 h6 hbd k0 a0 a1 k2 k3 hl hn5 u1 u2 HRD
    go_upto_region 20 with fail
    go_region_held3 (fun w' => w'.cell? ⟨G, 6, none⟩ = some (.slice (some ai) n3 c3) ∧ w'.cell? ⟨H, 1, none⟩ = some (sv x)) (first | exact ⟨q6, q1⟩) (first | (go_at_call 40; refine HFD.out.mono ?_; rintro e w' ⟨rfl, rfl⟩))
    go_upto_region 23 with fail
    go_region
    all_goals
      go_wp2_with fail
      go_ret
      exact ⟨X, Y, F, rfl, HR.out, HY.out, HJ.out.more, rfl, ⟨P, M, N, own, ownD, by omega, HSZ.out, HP3.out⟩, HLT.out.trans ((Below.refl _ _).drew.mono HSZ.out), HSI.out⟩
  · rw [if_neg (by rw [hh]; decide)] at HRD
    have HE := Lib.hid (And.intro e1 hh)
    clear e1 hh
    go_enter Tryz.func12, Tryz.ntmps12
    go_upto_region 1 with fail
    rw [← HW0.out, ← HHE.out]
    go_upto_region 19 with fail
    go_region_held3 (fun w' => w'.cell? ⟨G, 0, none⟩ = some (.pointer (some ⟨P, 0, none⟩)) ∧ w'.cell? ⟨H, 1, none⟩ = some (sv x)) (first | exact ⟨k0, a1⟩ | exact ⟨k2, k3⟩)
      (first | (go_at_call 30; refine HRD.out.mono ?_; rintro e w3 ⟨A5, n5, c5, rfl, ho5, hb5⟩; have k2 := (HP0.out.past hb5).st_ptr; have k3 := (BA.out.past hb5).cell (i := 1) rfl; have HO5 := Lib.hid ho5; have HB5 := Lib.hid hb5; clear ho5 hb5))
    have hbd : Below w3.heap.size w3 w3.drew := (Below.refl _ _).drew
    have hP3 := HP0.out.past (HB5.out.trans (hbd.mono HB5.out.size))
    obtain ⟨A, n, c, A2, n2, c2, A3, n3, c3, A4, n4, c4, h1, h2, h3, h4, h5, h6⟩ := hP3.box
    have HFD := Lib.hid (rfind_any A3 n3 c3 Y.now x w3.drew h4.len (by have := HJ.out.now; have := h4.len; omega) h4.at_.now)
    rw [HE.out.1] at HFD
    have q6 := h1.cell (i := 6) rfl
    have q1 := (BA.out.past (HB5.out.trans (hbd.mono HB5.out.size))).cell (i := 1) rfl
    have HLT := Lib.hid (show Below B w w3.drew from ((HP.out.below (Out.of_below HB0.out)).trans (Below.mono HB5.out (by have := HB0.out.size; omega))).trans (hbd.mono (by have := HB0.out.size; have := HB5.out.size; omega)))
    have HSI := Lib.hid (show w.heap.size < w3.heap.size by have := HS0.out; have := HB5.out.size; omega)
    have HSZ := Lib.hid (show B ≤ w3.heap.size by have := HB0.out.size; have := HB5.out.size; omega)
    have HP3 := Lib.hid hP3
    have hn5 : n5 = 0 := by have := HO5.out.1; rw [cellsOf_length, Nat.mul_one] at this; exact this.symm
    subst hn5
    clear hP3 h1 h2 h3 h4 h5 h6 hbd k0 a0 a1 k2 k3 HRD
    go_upto_region 20 with fail
    go_region_held3 (fun w' => w'.cell? ⟨G, 6, none⟩ = some (.slice A3 n3 c3) ∧ w'.cell? ⟨H, 1, none⟩ = some (sv x)) (first | exact ⟨q6, q1⟩) (first | (go_at_call 40; refine HFD.out.mono ?_; rintro e w' ⟨rfl, rfl⟩))
    go_wp2_with fail
    go_ret
    exact ⟨X, Y, F, rfl, HR.out, HY.out, HJ.out.more, rfl, ⟨P, M, N, own, ownD, by omega, HSZ.out, HP3.out⟩, HLT.out, HSI.out⟩
theorem does_any {j : Nat} (h : PlayIs w B G D j X Y) (hr : Rest X F) (hY : PlyOk X F Y) (hj : FewY Y j) (hj60 : j ≤ 60) (z : Int) (x : List UInt8) (hx : x.length ≤ 100) (A0 : Option Addr) (n0 c0 : Nat) (b : List UInt8) (hb : b.length = n0) (hn0 : n0 ≤ 1000) (hrb : Rd w w.heap.size A0 b) :
    Calls Tryz.prog 12 #[.pointer (some ⟨G, 0, none⟩), .agg #[.int .i64 z, sv x, .slice A0 n0 c0]] w (DoPost w B G D j X.S.stored.length) := by
  by_cases h3 : z = 3
  · subst h3
    exact does_commit h hr hY hj hj60 x A0 n0 c0
  · by_cases h5 : z = 5
    · subst h5
      exact does_open h hr hY hj hj60 x A0 n0 c0
    · by_cases hc : z = 0 ∨ z = 1 ∨ z = 2 ∨ z = 4
      · exact does_changes h hr hY hj hj60 z hc x hx A0 n0 c0 b hb hn0 hrb
      · exact does_read h hr hY hj hj60 z (by omega) x hx A0 n0 c0
end
end Go.Proofs.YtiocpefgccndbaaGreat
end
section
namespace Go.Proofs.YtiocpefgccndbaaGreat
open Go.RowKit Me Mf Rw Ds Va Go.Maps

/-- What begins. -/
def BpPost (w : World) (n : Nat) (e : Ending) (w' : World) : Prop :=
  ∃ G D, e = .returned (.tuple #[.pointer (some ⟨G, 0, none⟩), .bool true]) ∧ PlayIs w' w.heap.size G D 0 ⟨newD n, noMan, noC, false⟩ ⟨noMan, [], [], [], false⟩ ∧ Below w.heap.size w w'
set_option maxRecDepth 100000 in
set_option maxHeartbeats 1000000 in
theorem begin_play (n : Nat) (h1 : 33 ≤ n) (h2 : n ≤ 65536) (w : World) : Calls Tryz.prog 11 #[.int .i64 (n : Int)] w (BpPost w n) := by
  have HN := Lib.hid (dnew_any n (by omega) h2 w)
  go_enter Tryz.func11, Tryz.ntmps11
  go_wp2_with (go_at_call 37; refine HN.out.mono ?_)
  rintro e w1 ⟨D, ownD, rfl, hd, hb1⟩
  have hrest := Rest.new (F := fun _ => []) (n := n) (by omega)
  obtain ⟨T, Z, hT, hZ, hans⟩ := hrest.read
  have hmr := mread_any hd (show (newD n).pend.length < _ by show 0 < _; omega) hT hZ
  rw [hans] at hmr
  have HO := Lib.hid (open_good (own := ownD) hd (fun k hk => hk) (fun k hk => hd.lt hk) hmr fit_none wf_none (fun z hz => by cases hz) hrest.ok.big (show 0 + 64 ≤ _ by omega))
  have HD := Lib.hid hd
  have HB1 := Lib.hid hb1
  clear hd hb1 hmr hans hT hZ hrest
  go_wp2_with fail
  refine HO.out.mono ?_
  intro e w2 hop
  simp only [OpPost, show noMan.version = 0 from rfl, ↓reduceIte] at hop
  rcases hop with ⟨q, -⟩ | ⟨-, P, M, own, ownD2, rfl, hst, ho2, hn2, -⟩
  · exact absurd rfl q
  · have hb2 : Below w.heap.size w w2 := HB1.out.trans (ho2.below (fun k hk hs => (HD.out.lt hs).1) HB1.out.size)
    have HS := Lib.hid hst
    have HB2 := Lib.hid hb2
    have hle := hb2.size
    clear hst ho2 hn2 hb2
    go_wp2_with fail
    go_ret2
    have hw3 : Below w2.heap.size w2 (w2.alloc (.cells #[.pointer (some ⟨P, 0, none⟩), .pointer (some ⟨D, 0, none⟩), .int .u64 0, .int .u32 0, .slice none 0 0, .slice none 0 0, .slice none 0 0, .slice none 0 0, .bool false] 42)) := (Below.refl _ _).alloc (Nat.le_refl _) _
    have hsz : (w2.alloc (.cells #[.pointer (some ⟨P, 0, none⟩), .pointer (some ⟨D, 0, none⟩), .int .u64 0, .int .u32 0, .slice none 0 0, .slice none 0 0, .slice none 0 0, .slice none 0 0, .bool false] 42)).heap.size = w2.heap.size + 1 := World.size_alloc _ _
    have hst := HS.out.with hw3 (E := fun k => k = w2.heap.size) (fun k hk => by omega) hle
    refine ⟨_, D, rfl, ⟨P, M, 0, _, ownD2, Nat.le_refl _, by omega, hst, ⟨none, 0, 0, none, 0, 0, none, 0, 0, none, 0, 0, Blk.new w2 [.pointer (some ⟨P, 0, none⟩), .pointer (some ⟨D, 0, none⟩), .int .u64 0, .int .u32 0, .slice none 0 0, .slice none 0 0, .slice none 0 0, .slice none 0 0, .bool false] _, ManK.none _ _, FbK.none, FbK.none, World.ownsRow_nil _ _ _ _, fun k hk => by cases hk⟩, .inr rfl, fun hf => ?_⟩, HB2.out.alloc hle _⟩
    have := (HS.out.lt (HS.out.own _ hf)).2
    omega
section
variable {w w' : World} {B G P D M N N' : Nat} {X X' : Sto} {Y Y' : Ply} {own ownD own' ownD' : Nat → Prop} {F : List UInt8 → List UInt8}
theorem ply_new (S : Dsk) (F : List UInt8 → List UInt8) : PlyOk ⟨S, noMan, noC, false⟩ F ⟨noMan, [], [], [], false⟩ := PlyOk.plain fit_none S false F
theorem few_new : FewY ⟨noMan, [], [], [], false⟩ 0 := ⟨Nat.le_refl _, Nat.le_refl _, Nat.le_refl _, Nat.le_refl _, (fun f hf => by cases hf), (fun f hf => by cases hf)⟩
theorem PlyOk.all (h : PlyOk X F Y) {l : List (List UInt8)} (hl : IsNames X l) : allF X F l = Y.now := by
  rw [hl.one h.names]
  unfold allF namesF
  rw [List.map_map]
  conv => rhs; rw [← List.map_id Y.now]
  refine List.map_congr_left fun f hf => ?_
  show (f.1, newF X.C F f.1) = f
  rw [← h.vals f hf]
end
end Go.Proofs.YtiocpefgccndbaaGreat
end
section
namespace Go.Proofs.YtiocpefgccndbaaGreat
open Go.RowKit Me Mf Rw Ds Va Go.Maps

/-- A store at rest, but for its pages. -/
structure Bare (X : Sto) : Prop where
  calm : Calm X.S
  on : X.S.on = true
  fuse : X.S.fuse < 0
  ok : OkS X
  live : X.broken = false
  slots : (X.m = noMan ∧ ∀ k, k < 2 → slotS X.S.stored k 16 = blankS) ∨ (0 < X.m.version ∧ ∀ k, k < 2 → slotS X.S.stored k 16 = slotOf X.m)
section
variable {X : Sto} {F : List UInt8 → List UInt8} {m : ManD}
theorem Bare.read (h : Bare X) : ∃ T Z, (∀ k, k < 2 → Says (slotD X.S k 16) (T k)) ∧ (∀ k, k < 2 → Z k = zeros (slotD X.S k 16)) ∧ ansD X.S T Z = (X.m, 0) := by
  obtain ⟨T, Z, hT, hZ⟩ := slots_say X.S
  refine ⟨T, Z, hT, hZ, ?_⟩
  have hsl : ∀ k, k < 2 → slotD X.S k 16 = slotS X.S.stored k 16 := fun k hk => slotD_stored h.on h.calm.pend h.calm.size (by omega) 16 (Nat.le_refl _)
  have hbig := h.ok.big
  unfold ansD
  rw [if_neg (by omega), h.on]
  rcases h.slots with ⟨hm, hb⟩ | ⟨hv, hs⟩
  · have hall : ∀ k, k < 2 → T k = none := fun k hk => by
      have := hT k hk
      rw [hsl k hk, hb k hk] at this
      exact this.one says_blank
    have hz : blkOf Z 2 = true := by
      unfold blkOf
      rw [hZ 1 (by omega), hsl 1 (by omega), hb 1 (by omega), zeros_blank, Bool.or_true]
    rw [if_pos rfl, hz]
    unfold curOf curOf curOf
    rw [hall 0 (by omega), hall 1 (by omega), hm]
    rfl
  · have hall : ∀ k, k < 2 → T k = some X.m := fun k hk => by
      have := hT k hk
      rw [hsl k hk, hs k hk] at this
      exact this.one (says_slot h.ok.wf h.ok.fit)
    exact ans_two (.inl ⟨hall 0 (by omega), .inl (hall 1 (by omega))⟩)
/-- .. opened anew. -/
theorem Bare.anew (h : Bare X) : (if X.m.version = 0 then (X.S, (0 : Int)) else wmD X.S X.m 2).2 = 0 ∧ Bare ⟨(if X.m.version = 0 then (X.S, (0 : Int)) else wmD X.S X.m 2).1, X.m, noC, false⟩ ∧
    ∀ j, 32 ≤ j → (if X.m.version = 0 then (X.S, (0 : Int)) else wmD X.S X.m 2).1.stored.getD j [] = X.S.stored.getD j [] := by
  have hok : OkS ⟨X.S, X.m, noC, false⟩ := { h.ok with keys := fun x hx => absurd rfl hx, len := fun x b hx => by cases hx }
  split
  · exact ⟨rfl, ⟨h.calm, h.on, h.fuse, hok, rfl, h.slots⟩, fun _ _ => rfl⟩
  · rename_i hv
    have hfit := h.ok.fit
    obtain ⟨d1, d2⟩ := wmD_done h.calm hfit h.on h.fuse
    refine ⟨d1, ?_, fun j hj => wmD_high h.calm hfit hj⟩
    rcases wmD_cases h.calm hfit with ⟨c0, -⟩ | ⟨c0, -⟩ | ⟨-, c1, c2, c3, c4⟩
    · exact absurd d1 c0
    · exact absurd d1 c0
    · refine ⟨c2, c3, by show (wmD X.S X.m 2).1.fuse < 0; rw [d2]; exact h.fuse, { hok with disk := ?_, big := ?_ }, rfl, .inr ⟨by show 0 < X.m.version; omega, c1⟩⟩
      · show St.OnDisk (wmD X.S X.m 2).1.stored.length _
        rw [c4]
        exact h.ok.disk
      · show 32 < (wmD X.S X.m 2).1.stored.length
        rw [c4]
        exact h.ok.big
/-- A disk whose block i is another one. -/
def Holed (st st' : List (List UInt8)) (i : Nat) (q : List UInt8) : Prop := st'.getD i [] = q ∧ ∀ j, j ≠ i → st'.getD j [] = st.getD j []
theorem turnB_length (b : List UInt8) (j : Nat) (y : UInt8) : (turnB b j y).length = b.length := by unfold turnB; rw [List.length_set]
theorem nodup_parts : ∀ {l : List FileD}, (allBlocks l).Nodup → (∀ f ∈ l, f.blocks.Nodup) ∧ l.Pairwise fun f g => ∀ z ∈ f.blocks, z ∉ g.blocks
  | [], _ => ⟨(fun f hf => by cases hf), List.Pairwise.nil⟩
  | f :: l, h => by
    have e : allBlocks (f :: l) = f.blocks ++ allBlocks l := by unfold allBlocks; rfl
    rw [e, List.nodup_append] at h
    obtain ⟨h1, h2⟩ := nodup_parts h.2.1
    refine ⟨fun g hg => ?_, List.pairwise_cons.2 ⟨fun g hg z hz hz2 => h.2.2 z hz z (allBlocks_mem hg hz2) rfl, h2⟩⟩
    rcases List.mem_cons.1 hg with rfl | hg
    · exact h.1
    · exact h1 g hg
theorem nodup_at {l : List Int} (h : l.Nodup) {s t : Nat} (hs : s < l.length) (ht : t < l.length) (e : l[s] = l[t]) : s = t := by
  have hp := List.nodup_iff_pairwise_ne.1 h
  rcases Nat.lt_trichotomy s t with hlt | rfl | hlt
  · exact absurd e (List.pairwise_iff_getElem.1 hp s t hs ht hlt)
  · rfl
  · exact absurd e.symm (List.pairwise_iff_getElem.1 hp t s ht hs hlt)
theorem turnB_zero (b : List UInt8) (j : Nat) : turnB b j 0 = b := by
  unfold turnB
  rw [UInt8.xor_zero]
  apply List.ext_getElem?
  intro k
  rw [List.getElem?_set]
  by_cases e : j = k
  · subst e
    rw [if_pos rfl]
    by_cases hj : j < b.length
    · rw [if_pos hj, List.getElem?_eq_getElem hj, List.getD_eq_getElem?_getD, List.getElem?_eq_getElem hj]; rfl
    · rw [if_neg hj, List.getElem?_eq_none (by omega)]
  · rw [if_neg e]
/-- What is behind a spoilt byte. -/
theorem spoil_is (h : Rest X F) (i at_ : Int) (y : UInt8) (hi : 32 ≤ i) : Bare ⟨(spoilD X.S i at_ y).1, X.m, noC, false⟩ ∧
    ((spoilD X.S i at_ y).1.stored = X.S.stored ∨ ∃ k a : Nat, 32 ≤ k ∧ k < X.S.stored.length ∧ a < 128 ∧ y ≠ 0 ∧ (spoilD X.S i at_ y).1.stored = X.S.stored.set k (turnB (X.S.stored.getD k []) a y)) := by
  have hok : OkS ⟨X.S, X.m, noC, false⟩ := { h.ok with keys := fun x hx => absurd rfl hx, len := fun x b hx => by cases hx }
  have hsame : Bare ⟨X.S, X.m, noC, false⟩ := ⟨h.calm, h.on, h.fuse, hok, rfl, h.slots⟩
  unfold spoilD
  split
  · rename_i hb
    rw [Bool.and_eq_true] at hb
    obtain ⟨k, rfl, hk⟩ := hasB_true hb.1
    obtain ⟨a, rfl, ha⟩ := hasB_true hb.2
    rw [Int.toNat_natCast, Int.toNat_natCast]
    have hlen : (X.S.stored.set k (turnB (X.S.stored.getD k []) a y)).length = X.S.stored.length := List.length_set
    have hget : ∀ j, j ≠ k → (X.S.stored.set k (turnB (X.S.stored.getD k []) a y)).getD j [] = X.S.stored.getD j [] := fun j hj => by
      rw [List.getD_eq_getElem?_getD, List.getElem?_set, if_neg (fun e => hj e.symm), ← List.getD_eq_getElem?_getD]
    refine ⟨⟨⟨h.calm.pend, fun b hb' => ?_, by rw [hlen]; exact h.calm.size⟩, h.on, h.fuse, { hok with disk := by show St.OnDisk (X.S.stored.set _ _).length _; rw [hlen]; exact h.ok.disk, big := by show 32 < (X.S.stored.set _ _).length; rw [hlen]; exact h.ok.big }, rfl, ?_⟩, ?_⟩
    · obtain ⟨j, hj, rfl⟩ := List.mem_iff_getElem.1 hb'
      rw [List.getElem_set]
      split
      · rw [turnB_length]
        refine h.calm.all _ ?_
        have e : X.S.stored.getD k [] = X.S.stored[k] := by rw [List.getD_eq_getElem?_getD, List.getElem?_eq_getElem hk]; rfl
        rw [e]
        exact List.getElem_mem _
      · exact h.calm.all _ (List.getElem_mem _)
    · have hsl : ∀ q, q < 2 → slotS (X.S.stored.set k (turnB (X.S.stored.getD k []) a y)) q 16 = slotS X.S.stored q 16 := fun q hq => slotS_eq (fun j h1 h2 => hget j (by omega)) 16 (Nat.le_refl _)
      rcases h.slots with ⟨h1, h2⟩ | ⟨h1, h2⟩
      · exact .inl ⟨h1, fun q hq => (hsl q hq).trans (h2 q hq)⟩
      · exact .inr ⟨h1, fun q hq => (hsl q hq).trans (h2 q hq)⟩
    · by_cases hy : y = 0
      · left
        subst hy
        show X.S.stored.set k (turnB (X.S.stored.getD k []) a 0) = _
        rw [turnB_zero]
        apply List.ext_getElem?
        intro j
        rw [List.getElem?_set]
        split
        · rename_i e
          subst e
          first
            | (rw [List.getD_eq_getElem?_getD, List.getElem?_eq_getElem hk]; rfl)
            | (rw [List.getElem?_eq_none (by omega)]; omega)
        · rfl
      · exact .inr ⟨k, a, by omega, hk, ha, hy, rfl⟩
  · exact ⟨hsame, .inl rfl⟩
theorem readGo_hole {S : Dsk} {f : FileD} {b : List UInt8} (hsz : f.size = (b.length : Int)) (hl : f.blocks.length = St.pages b.length) {k0 : Nat} (hrd : ∀ k, k < St.pages b.length → k ≠ k0 → readD S (f.blocks.getD k 0) = pgB f.id b k) (hk0 : k0 < St.pages b.length)
    (hbad : (Pg.getP (readD S (f.blocks.getD k0 0)) (rg f.id) (rg k0)).2 ≠ 0) : ∀ (n k : Nat), n + k = St.pages b.length → k ≤ k0 → readGo S f.id f.size (f.blocks.drop k) k (b.take (112 * k)) = ([], 5)
  | 0, k, h, hk => by omega
  | n + 1, k, h, hk => by
    have hkl : k < f.blocks.length := by omega
    have hkb : 112 * k < b.length := by unfold St.pages at h; omega
    have hc : (chP b k).length ≤ 112 := by rw [chP_length]; unfold chLen; omega
    have e1 : f.blocks[k] = f.blocks.getD k 0 := by rw [List.getD_eq_getElem?_getD, List.getElem?_eq_getElem hkl]; rfl
    rw [List.drop_eq_getElem_cons hkl, readGo, e1]
    by_cases e : k = k0
    · subst e
      rw [if_pos (.inl hbad)]
    · rw [hrd k (by omega) e]
      have e2 : Pg.getP (pgB f.id b k) (rg f.id) (rg k) = (chP b k, 0) := Pg.getP_enc hc
      rw [e2]
      have e3 : b.take (112 * k) ++ chP b k = b.take (112 * (k + 1)) := by
        unfold chP
        rw [Nat.mul_succ, List.take_add]
      rw [if_neg, e3]
      · exact readGo_hole hsz hl hrd hk0 hbad n (k + 1) (by omega) (by omega)
      · simp only [ne_eq, not_true, false_or, Decidable.not_not]
        rw [hsz, chP_length, List.length_take]
        unfold chLen
        omega
theorem readD_at {S : Dsk} (hon : S.on = true) (hp : S.pend = []) {n : Nat} (hn : n < S.stored.length) : readD S (n : Int) = S.stored.getD n [] := by
  unfold readD readE
  rw [hon, if_pos rfl, hasB_nat, decide_eq_true hn, if_pos rfl, if_pos rfl, Int.toNat_natCast]
  unfold latestD
  rw [hp]
  rfl
/-- A file of a store with a byte of a page spoilt: as it was, or told to be corrupt. -/
theorem spoilt_file (h : Rest X F) {i at_ : Int} {y : UInt8} (hi : 32 ≤ i) {S : Dsk} (hS : Calm S) (hon : S.on = true) (hlen : S.stored.length = X.S.stored.length) (hst : ∀ j, 32 ≤ j → S.stored.getD j [] = (spoilD X.S i at_ y).1.stored.getD j []) {f : FileD} (hf : f ∈ X.m.files) :
    readF S f = (F f.name, 0) ∨ (readF S f = ([], 5) ∧ y ≠ 0 ∧ ∃ k : Nat, (k : Int) ∈ f.blocks ∧ (spoilD X.S i at_ y).1.stored = X.S.stored.set k ((spoilD X.S i at_ y).1.stored.getD k [])  ∧ (k : Int) = i) := by
  have hblk : ∀ z ∈ f.blocks, 32 ≤ z ∧ z < (X.S.stored.length : Int) := fun z hz => ⟨((h.ok.fit.1.2.2.1 f hf).2.2 z hz).1, h.ok.disk z (by unfold allBlocks; exact List.mem_flatMap.2 ⟨f, hf, hz⟩)⟩
  obtain ⟨q1, q2, q3⟩ := h.holds f hf
  have hgood : (∀ z ∈ f.blocks, S.stored.getD z.toNat [] = X.S.stored.getD z.toNat []) → readF S f = (F f.name, 0) := fun hg =>
    readF_is hon hS.pend (FileIs.keep (h.holds f hf) hg) fun z hz => ⟨by have := (hblk z hz).1; omega, by rw [hlen]; exact (hblk z hz).2⟩
  by_cases hb : hasB X.S.stored.length i && hasB 128 at_
  · obtain ⟨k, rfl, hk⟩ := hasB_true (Bool.and_eq_true _ _ ▸ hb).1
    obtain ⟨a, rfl, ha⟩ := hasB_true (Bool.and_eq_true _ _ ▸ hb).2
    have hsp : (spoilD X.S (k : Int) (a : Int) y).1.stored = X.S.stored.set k (turnB (X.S.stored.getD k []) a y) := by
      unfold spoilD
      rw [if_pos hb, Int.toNat_natCast, Int.toNat_natCast]
    have hself : (X.S.stored.set k (turnB (X.S.stored.getD k []) a y)).getD k [] = turnB (X.S.stored.getD k []) a y := by rw [List.getD_eq_getElem?_getD, List.getElem?_set, if_pos rfl, if_pos hk]; rfl
    have hoth : ∀ j, j ≠ k → (X.S.stored.set k (turnB (X.S.stored.getD k []) a y)).getD j [] = X.S.stored.getD j [] := fun j hj => by
      rw [List.getD_eq_getElem?_getD, List.getElem?_set, if_neg (fun e => hj e.symm), ← List.getD_eq_getElem?_getD]
    by_cases hin : (k : Int) ∈ f.blocks
    · by_cases hy : y = 0
      · left
        refine hgood fun z hz => ?_
        rw [hst _ (by have := (hblk z hz).1; omega), hsp]
        by_cases e : z.toNat = k
        · rw [e, hself, hy, turnB_zero]
        · exact hoth _ e
      · right
        obtain ⟨k0, hk0, e0⟩ := List.mem_iff_getElem.1 hin
        have e0' : f.blocks.getD k0 0 = (k : Int) := by rw [List.getD_eq_getElem?_getD, List.getElem?_eq_getElem hk0]; exact e0
        have hnd : f.blocks.Nodup := by
          exact (nodup_parts h.ok.fit.1.2.2.2).1 f hf
        have hrd : ∀ j, j < St.pages (F f.name).length → j ≠ k0 → readD S (f.blocks.getD j 0) = pgB f.id (F f.name) j := fun j hj hne => by
          have hjl : j < f.blocks.length := by omega
          have hm := getD_mem (bl := f.blocks) hjl
          obtain ⟨r1, r2⟩ := hblk _ hm
          obtain ⟨n, hn⟩ : ∃ n : Nat, f.blocks.getD j 0 = (n : Int) := ⟨(f.blocks.getD j 0).toNat, by omega⟩
          have h4 := q3 j hj
          rw [hn, Int.toNat_natCast] at h4
          have hnk : n ≠ k := fun e => by
            subst e
            apply hne
            have e1 : f.blocks[j] = f.blocks[k0] := by
              rw [e0, ← hn, List.getD_eq_getElem?_getD, List.getElem?_eq_getElem hjl]; rfl
            exact nodup_at hnd _ _ e1
          rw [hn, readD_at hon hS.pend (by omega), hst n (by omega), hsp, hoth n hnk, h4]
        have hbad : (Pg.getP (readD S (f.blocks.getD k0 0)) (rg f.id) (rg k0)).2 ≠ 0 := by
          rw [e0', readD_at hon hS.pend (by omega), hst k (by omega), hsp, hself]
          have h4 := q3 k0 (by omega)
          rw [e0', Int.toNat_natCast] at h4
          rw [h4]
          unfold turnB
          have hpl := pgB_length f.id (F f.name) k0
          have hu : (pgB f.id (F f.name) k0)[a]? = some ((pgB f.id (F f.name) k0).getD a 0) := by rw [List.getD_eq_getElem?_getD, List.getElem?_eq_getElem (by omega)]; rfl
          have hc : (chP (F f.name) k0).length ≤ 112 := by rw [chP_length]; unfold chLen; omega
          have := Pg.getP_turned (f := rg f.id) (p := rg k0) (f' := rg f.id) (p' := rg k0) hc hu hy
          unfold pgB at this ⊢
          rw [this]
          show (5 : Int) ≠ 0
          omega
        refine ⟨readGo_hole q1 q2 hrd (by omega) hbad _ 0 (by omega) (Nat.zero_le _), hy, k, hin, ?_, rfl⟩
        rw [hsp, hself]
    · left
      refine hgood fun z hz => ?_
      rw [hst _ (by have := (hblk z hz).1; omega), hsp]
      refine hoth _ fun e => hin ?_
      have := (hblk z hz).1
      have e2 : z = (k : Int) := by omega
      rw [← e2]
      exact hz
  · left
    refine hgood fun z hz => ?_
    rw [hst _ (by have := (hblk z hz).1; omega)]
    unfold spoilD
    rw [if_neg hb]
/-- No block is two files'. -/
theorem blocks_once {l : List FileD} (h : BlocksOk l) {s t : Nat} {f g : FileD} (hf : l[s]? = some f) (hg : l[t]? = some g) {z : Int} (h1 : z ∈ f.blocks) (h2 : z ∈ g.blocks) : s = t := by
  have hp := (nodup_parts h.2).2
  obtain ⟨hs, e1⟩ := List.getElem?_eq_some_iff.1 hf
  obtain ⟨ht, e2⟩ := List.getElem?_eq_some_iff.1 hg
  rcases Nat.lt_trichotomy s t with hlt | rfl | hlt
  · have := List.pairwise_iff_getElem.1 hp s t hs ht hlt
    rw [e1, e2] at this
    exact absurd h2 (this z h1)
  · rfl
  · have := List.pairwise_iff_getElem.1 hp t s ht hs hlt
    rw [e1, e2] at this
    exact absurd h1 (this z h2)
/-- What is read of a store without changes. -/
theorem read_file {S : Dsk} (hf : Fit m) (hon : S.on = true) {f : FileD} (h : f ∈ m.files) : sreadD ⟨S, m, noC, false⟩ f.name = readF S f := by
  unfold sreadD upD noC
  simp only [hon, Bool.not_false, Bool.and_self, if_true]
  have : fileOf m f.name = some f := by
    unfold fileOf
    rw [← List.head?_filter, filter_one (names_apart hf.1.1) h]
    rfl
  simp only [this]
end
end Go.Proofs.YtiocpefgccndbaaGreat
end
