/- Texts put together, for a law: MmI. -/
import Derived.Test.YteaibgnelnblnaaKQ20
import Derived.Test.YteaibgnelnblnaaKQ18
import Derived.Test.YteaibgnelnblnaaKQ20
section
namespace Go.Proofs.Yteaibgnelnblnaa
open Go.RowKit Me Tx Ed Mg Va

/-- A row as it is handed on. -/
def eV (B : Nat) (O : Nat → Prop) (x : TellR) (av : Array Value) (W : World) : Prop :=
  ∃ A n c, av = #[.agg #[.int .u32 (x.1.1 : Int), .slice A n c], .int .i64 x.2] ∧ RwAt W B W.heap.size (x.1.1, A, n, c) x.1 ∧ (∀ a, A = some a → ¬ O a.block) ∧ ∃ lo, W.ownsRow lo 55 2 (.slice A n c) n (arcCells x.1.2)
/-- The blocks of the iterator's own. -/
def EO (H D : Nat) (O : Nat → Prop) (v : Value) (k : Nat) : Prop := (H ≤ k ∧ k < D) ∨ O k ∨ v.ownBlock = some k
/-- What stands between two keys. -/
structure EcI (l H D hi : Nat) (S : Nat → Prop) (J : (Nat → Prop) → List TellR → World → Prop) (W0 : World) (es : List Pc) (O : Nat → Prop) (pre : List Pc) (W : World) : Prop where
  ex : ∃ (rows : List RowR) (last : Option EdD) (A : Option Addr) (n c : Nat), GoneK (pre.map (·.2)) rows last ∧ MkOk rows last pre.length ∧ MrgAt W D (H + 1) rows last A n c ∧ (∀ k, (Value.slice A n c).ownBlock = some k → ¬ O k) ∧ J (EO H D O (.slice A n c)) (told rows) W
  box : Blk W H [.func (.yield l) #[] #[]]
  low : ∀ k, O k → D ≤ k
  out : Out S W0 W
theorem EcI.stays {l H D hi : Nat} {S : Nat → Prop} {J : (Nat → Prop) → List TellR → World → Prop} {W0 : World} {es : List Pc} (hD : H + 1 < D) (hW0 : W0.heap.size ≤ D) (hJ : Ru.Stays J) : Ru.Stays (EcI l H D hi S J W0 es) := by
  intro O O' pre W W' h ho hk
  obtain ⟨rows, last, A, n, c, h1, h2, h3, h4, h5⟩ := h.ex
  have hlim : D ≤ W.heap.size := h3.lim
  have hlow : ∀ k, O' k → D ≤ k := fun k hk' => (hk k hk').elim (h.low k) (fun h => by omega)
  refine ⟨⟨rows, last, A, n, c, h1, h2, ⟨h3.box.out ho (fun e => by have := h.low _ e; omega), own_out h3.own ho h4, h3.len, h3.low, Nat.le_trans hlim ho.size⟩, fun k hk' hO => ?_, ?_⟩, h.box.out ho (fun e => by have := h.low _ e; omega), hlow, h.out.trans' ho fun k e => .inr (by have := h.low k e; omega)⟩
  · rcases hk k hO with e | e
    · exact h4 k hk' e
    · have := (h3.own.lt k hk').2; omega
  · refine hJ _ _ _ _ _ h5 (ho.more fun k _ e => .inr (.inl e)) fun k e => ?_
    rcases e with e | e | e
    · exact .inl (.inl e)
    · exact (hk k e).imp (fun e => .inr (.inl e)) id
    · exact .inl (.inr (.inr e))
/-- How the loop is left. -/
def EcX (H D : Nat) (S : Nat → Prop) (J Jx : (Nat → Prop) → List TellR → World → Prop) (W0 : World) (es : List Pc) (c : Code) (O : Nat → Prop) (_pre : List Pc) (W : World) : Prop :=
  c = .ret ∧ (∀ k, O k → D ≤ k) ∧ D ≤ W.heap.size ∧ Out S W0 W ∧ (J (EO H D O .nilFunc) (tellX (es.map (·.2))) W ∨ ∃ p q, tellX (es.map (·.2)) = p ++ q ∧ Jx (EO H D O .nilFunc) p W)
theorem EcX.stays {H D : Nat} {S : Nat → Prop} {J Jx : (Nat → Prop) → List TellR → World → Prop} {W0 : World} {es : List Pc} {c : Code} (hW0 : W0.heap.size ≤ D) (hJ : Ru.Stays J) (hJx : Ru.Stays Jx) : Ru.Stays (EcX H D S J Jx W0 es c) := by
  intro O O' pre W W' ⟨h1, h2, h3, h4, h5⟩ ho hk
  have hlow : ∀ k, O' k → D ≤ k := fun k hk' => (hk k hk').elim (h2 k) (fun h => by omega)
  have hin : ∀ k, EO H D O' .nilFunc k → EO H D O .nilFunc k ∨ W.heap.size ≤ k := fun k e => by
    rcases e with e | e | e
    · exact .inl (.inl e)
    · exact (hk k e).imp (fun e => .inr (.inl e)) id
    · cases e
  refine ⟨h1, hlow, Nat.le_trans h3 ho.size, h4.trans' ho fun k e => .inr (by have := h2 k e; omega), ?_⟩
  rcases h5 with h5 | ⟨p, q, e, h5⟩
  · exact .inl (hJ _ _ _ _ _ h5 (ho.more fun k _ e => .inr (.inl e)) hin)
  · exact .inr ⟨p, q, e, hJx _ _ _ _ _ h5 (ho.more fun k _ e => .inr (.inl e)) hin⟩
theorem eo_sub {H D : Nat} {O : Nat → Prop} {v : Value} : ∀ k, EO H D O .nilFunc k → EO H D O v k := fun k h => by
  rcases h with h | h | h
  · exact .inl h
  · exact .inr (.inl h)
  · cases h
theorem ec_in {W X Y : World} {H : Nat} {S O : Nat → Prop} {v : Value} (hH : H = W.heap.size) (h : Out (Ru.SO S W.heap.size (EO H (H + 3) O v)) X Y) : Out (Ru.SO (fun k => S k ∨ k = H + 1) (H + 3) O) X Y := h.more fun k _ hk => by
  rcases hk with h | ⟨h1, h2⟩
  · exact .inl (.inl h)
  · refine .inr ⟨?_, fun h => h2 (.inr (.inl h))⟩
    rcases Nat.lt_or_ge k (H + 3) with h3 | h3
    · exact absurd (.inl ⟨by omega, h3⟩) h2
    · exact h3
theorem ec_old {W X Y : World} {H : Nat} {S O : Nat → Prop} {v : Value} (h0 : Out S W X) (h : Out (Ru.SO S W.heap.size (EO H (H + 3) O v)) X Y) : Out S W Y := h0.trans' h fun k hk => hk.elim .inl (fun h => .inr h.1)
theorem MrgAt.kept {T : Nat → Prop} {w w' : World} {lo G : Nat} {rows : List RowR} {last : Option EdD} {A : Option Addr} {n c : Nat} (h : MrgAt w lo G rows last A n c) (ho : Out T w w') (h1 : ¬ T G) (h2 : ∀ k, (Value.slice A n c).ownBlock = some k → ¬ T k) : MrgAt w' lo G rows last A n c :=
  ⟨h.box.out ho h1, own_out h.own ho h2, h.len, h.low, Nat.le_trans h.lim ho.size⟩
theorem MkOk.fits {rows : List RowR} {last : Option EdD} {k : Nat} (h : MkOk rows last k) : (∀ p ∈ arcM (mh rows).2, p.fits) ∧ (mh rows).1 < 4294967296 := by
  cases rows with
  | nil => exact ⟨fun p hp => (by cases hp), by decide⟩
  | cons r l =>
    have h1 := h.fit r List.mem_cons_self
    refine ⟨fun p hp => ?_, h1.1⟩
    obtain ⟨q, hq, rfl⟩ := arcM_mem hp
    have h2 : q.wgt ≤ sumA r.arcs := sumA_mem hq
    have h3 := h.keys.sum r l rfl
    exact ⟨h1.2 q hq, by show q.wgt < _; omega⟩
theorem mh_len {rows : List RowR} {last : Option EdD} {k : Nat} (h : MkOk rows last k) : (arcM (mh rows).2).length = 0 ↔ rows = [] := by
  cases rows with
  | nil => exact ⟨fun _ => rfl, fun _ => rfl⟩
  | cons r l =>
    refine ⟨fun e => ?_, fun e => by cases e⟩
    rw [arcM_length] at e
    exact absurd (List.eq_nil_of_length_eq_zero e) (h.ok.full r List.mem_cons_self)
/-- The row that is handed on. -/
theorem ev_row {w : World} {B H lo : Nat} {O : Nat → Prop} {v : Value} {rows : List RowR} {last : Option EdD} {k : Nat} {A : Option Addr} {n c : Nat} (hok : MkOk rows last k) (hown : w.ownsRow lo 55 2 (.slice A n c) n (arcCells (arcM (mh rows).2))) (hlen : (arcM (mh rows).2).length = n) (hlo : lo = H + 3) (hB : B = H) (hn : 0 < n) (hAO : ∀ k, (Value.slice A n c).ownBlock = some k → ¬ O k ∧ v.ownBlock ≠ some k) :
    eV B (EO H (H + 3) O v) (((mh rows).1, arcM (mh rows).2), 0) #[.agg #[.int .u32 ((mh rows).1 : Int), .slice A n c], .int .i64 0] w := by
  obtain ⟨g, cap, hform, hg, -⟩ := hown.form hn
  injection hform with h1 h2 h3
  subst h1 h3
  refine ⟨some ⟨g, 0, none⟩, n, c, rfl, ⟨fun a e => ?_, rfl, hok.fits.2, hlen, own_bounds hown, Arcs.of_own hown hok.fits.1⟩, fun a e => ?_, lo, hown⟩
  · injection e with e
    rw [← e]
    show B ≤ g
    omega
  · injection e with e
    rw [← e]
    rintro (h | h | h)
    · have h : H ≤ g ∧ g < H + 3 := h
      omega
    · exact (hAO g rfl).1 h
    · exact (hAO g rfl).2 h
theorem roundIn_any {m m' : Nat} {P : Program} {l : Nat} {f : FuncId} {tmps : Array Value} {assign body : Code} {w : World} {R : Ending → World → Prop} (h : RoundIn Fence.wide m P l f tmps assign body w R) : RoundIn Fence.wide m' P l f tmps assign body w R :=
  ⟨trivial, fun c cs _ => h.2 c cs (fun d e => by simp [Fence.wide] at e)⟩
/-- A round of another loop, within a round. -/
theorem roundIn_in {l' m m' : Nat} {P : Program} {l : Nat} {f : FuncId} {tmps : Array Value} {assign body : Code} {w : World} {R : Ending → World → Prop} (h : RoundIn Fence.wide m P l f tmps assign body w R) : RoundIn (Fence.wide.inRound l') m' P l f tmps assign body w R :=
  ⟨trivial, fun c cs _ => h.2 c cs (fun d e => by simp [Fence.wide] at e)⟩
attribute [local go_sem] Oper.semAt_some
set_option maxRecDepth 100000 in
set_option maxHeartbeats 4000000 in
theorem each_gives {w0 : World} {hi Bs Bk : Nat} {f : Value} {es : List Pc} (h0 : KeysFn w0 hi Bs Bk f es) (hfew : es.length ≤ 1000) :
    Ru.Gives Try.prog 76 #[.pointer (some ⟨Bk, 0, none⟩)] eV (tellX (es.map (·.2))) (KeyM hi Bs Bk) w0 := fun nn l S J Jx W hW hS hJ hJx hY hj0 => by
  have h := h0.out (T := fun _ => False) (.of_below hW) (fun _ h => h.elim)
  refine callsIn_any (n := 4) ?_
  obtain ⟨H, hH⟩ : ∃ H, H = W.heap.size := ⟨_, rfl⟩
  have hf1 : f.oneCell' = true := by rcases h.fn with ⟨e, -⟩ | ⟨e, -⟩ <;> (rw [e]; rfl)
  have c0 := h.box.cell (i := 0) rfl
  have hbk := h.box.lt
  obtain ⟨W3, hW3⟩ : ∃ W3, ((W.alloc (.cells #[.func (.yield l) #[] #[]] 123)).alloc (.cells #[.int .u32 0, .slice none 0 0, .int .u64 0, .int .u32 0, .int .u32 0, .int .u32 0] 125)).alloc (.cells #[f] 97) = W3 := ⟨_, rfl⟩
  have hs3 : W3.heap.size = H + 3 := by rw [← hW3, hH]; simp
  have hb3 : Below W.heap.size W W3 := by rw [← hW3]; exact (((Below.refl _ _).alloc (Nat.le_refl _) _).alloc (by simp) _).alloc (by simp; omega) _
  have by3 : Blk W3 H [.func (.yield l) #[] #[]] := by rw [← hW3, hH]; exact ((Blk.new W [.func (.yield l) #[] #[]] _).alloc _).alloc _
  have bm3 : Blk W3 (H + 1) (mgC 0 0 0 0 none ⟨0, 0, 0⟩) := by rw [← hW3, hH]; exact (Blk.new' (W.alloc _) (mgC 0 0 0 0 none ⟨0, 0, 0⟩) _ (by simp)).alloc _
  have bf3 : Blk W3 (H + 2) [f] := by rw [← hW3, hH]; exact Blk.new' ((W.alloc _).alloc _) [f] _ (by simp)
  have hk3 : KeysFn W3 hi Bs (H + 2) f es := by
    have h3 := h.out (T := fun _ => False) (.of_below hb3) (fun _ h => h.elim)
    exact ⟨bf3, h3.fn, h3.lim, h3.bs⟩
  have HBs := Lib.hid (show hi ≤ H ∧ Bs < H from by rw [hH]; exact ⟨h.lim, h.bs⟩)
  have HK3 := Lib.hid hk3
  have HS := Lib.hid hS
  have HJ := Lib.hid hJ
  have HJX := Lib.hid hJx
  have HY := Lib.hid hY
  have HJ0 := Lib.hid hj0
  have HHE := Lib.hid hH
  have HB3 := Lib.hid hb3
  have BY3 := Lib.hid by3
  have BM3 := Lib.hid bm3
  have HS3 := Lib.hid hs3
  have HW3 := Lib.hid hW3
  have HFEW := Lib.hid hfew
  clear h h0 hW hS hJ hJx hY hj0 hH hb3 by3 bm3 bf3 hk3 hs3 hW3 hfew
  refine callsIn_of_wp_marks Try.func76 rfl trivial ?_ rfl
  simp only [Try.ntmps76, List.size_toArray, List.length_cons, List.length_nil, Nat.reduceAdd, Nat.reduceSub, Array.replicate_succ, Array.replicate_zero, List.push_toArray, List.append_toArray, List.nil_append, List.cons_append]
  gi_wp2_with fail
  refine ⟨trivial, (callsIn_wide.2 (stoppable_any f hf1 _)).mono ?_⟩
  rintro e w' ⟨rfl, rfl⟩
  simp only [World.size_alloc]
  rw [HW3.out, ← HHE.out]
  rw [show H + 1 + 1 = H + 2 from rfl]
  gi_wp2_with fail
  refine Ru.range_gives (gf := 99) (lb := #[.pointer (some ⟨H + 2, 0, none⟩)]) rfl (Go.Proofs.enters_of Try.func99 (by kernel_rfl) rfl) (stop_gives HK3.out) (Below.refl _ _) (fun B O x av W h => by rw [h.1]; rfl)
    (fun k => S k ∨ k = H + 1) ?hS ?hM
    (EcI l H (H + 3) hi S J W es) (EcX H (H + 3) S J Jx W es) (EcI.stays (by omega) (by have := HHE.out; omega) HJ.out) (fun c => EcX.stays (by have := HHE.out; omega) HJ.out HJX.out) ?hI0
    (fun _ x a' W' => ∃ A1 n1 c1, x.1 = .slice A1 n1 c1 ∧ a' = { tmps := #[.func (.yield l) #[] #[], .pointer (some ⟨Bk, 0, none⟩), .pointer (some ⟨H, 0, none⟩), .pointer (some ⟨H + 1, 0, none⟩), .slice A1 n1 c1, undef, undef, f, .func (.func 99) #[] #[.pointer (some ⟨H + 2, 0, none⟩)], .slice A1 n1 c1, undef, undef, undef, undef, undef, undef, undef, undef, undef, undef, undef, undef, undef, undef, undef, undef, undef, undef, undef, undef, undef, undef, undef, undef, undef, undef, undef, undef, undef, undef, undef, undef], defers := [] } ∧ PcAt W' hi x ∧ hi ≤ W'.heap.size)
    ?hAx ?assign ?body ?done ?stop
  case hS =>
    rintro k (hk | rfl)
    · have h1 := HS.out k hk
      have h2 := HHE.out
      refine ⟨by have := HS3.out; omega, ?_⟩
      rintro (h | h | h)
      · exact h1.2 (.inl h)
      · exact h1.2 (.inr (.inl h))
      · omega
    · refine ⟨by have := HS3.out; omega, ?_⟩
      have := HBs.out
      rintro (h | h | h) <;> omega
  case hM =>
    have := HBs.out
    have := HS3.out
    rintro k (h | h | h) <;> omega
  case hI0 =>
    intro O hO
    have h1 := HS3.out
    refine ⟨⟨[], none, none, 0, 0, GoneK.start, MkOk.start, ⟨BM3.out, World.ownsRow_nil _ _ _ _, rfl, by omega, by omega⟩, fun k hk => by (cases hk), ?_⟩, BY3.out, fun k hk => by have := hO k hk; omega, .of_below HB3.out⟩
    refine HJ.out (fun _ => False) _ [] W W3 HJ0.out (.of_below HB3.out) fun k hk => .inr ?_
    have h2 := HHE.out
    rcases hk with hk | hk | hk
    · omega
    · have := hO k hk; omega
    · cases hk
  case hAx =>
    rintro O x a' W1 W2 ⟨A1, n1, c1, h1, h2, h3, h6⟩ ho
    refine ⟨A1, n1, c1, h1, h2, h3.keep fun a ha => ?_, Nat.le_trans h6 ho.size⟩
    have h4 := HBs.out.1
    have h5 := HS3.out
    refine ho.cell (by omega) ?_
    rintro (h | h) <;> omega
  case assign =>
    rintro O l' m pre x av W' K hO hOD hOD1 ⟨rfl, hp⟩ hI ho hK
    obtain ⟨A1, n1, c1, e1, h2⟩ := hp
    rw [e1]
    gi_wp2
    exact hK _ _ (Out.refl _ _) hI ⟨A1, n1, c1, e1, rfl, ⟨A1, n1, c1, e1, h2⟩, by
      obtain ⟨rows, last, A, n, c, -, -, h3, -⟩ := hI.ex
      have := h3.lim
      have := HBs.out.1
      omega⟩
  case body =>
    rintro O l' m pre x post a' W2 hX hO hOD hOD1 ho hI ⟨K, kn, kc, hx1, rfl, hpc, hhi2⟩
    obtain ⟨rows, last, A, n, c, hg, hok, hm, hAO, hj⟩ := hI.ex
    obtain ⟨K', kn', kc', hx2, hkl, hkc, hkm, hkr⟩ := hpc
    rw [hx1] at hx2
    injection hx2 with e1 e2 e3
    subst e1 e2 e3
    have hpk : pre.length ≤ 1000 := by have := HFEW.out; rw [hX, List.length_append] at this; omega
    have HC := Lib.hid (mcons_any (H + 3) (H + 1) n c A rows last pre.length K kn kc x.2 W2 hm hok hpk hkl (hkr.more hhi2))
    have HI := Lib.hid hI
    have HGN := Lib.hid hg
    have HOK := Lib.hid hok
    have HM := Lib.hid hm
    have HAO := Lib.hid hAO
    have HJ2 := Lib.hid hj
    have HX := Lib.hid hX
    have HO := Lib.hid hO
    have HOO := Lib.hid ho
    have HEO := Lib.hid (show ∀ W' : World, W2.heap.size ≤ W'.heap.size → ∀ k, EO H (H + 3) O (.slice A n c) k → W.heap.size ≤ k ∧ k < W'.heap.size from fun W' hs k hk => by
      have h1 := HHE.out
      have h2 := hm.lim
      rcases hk with hk | hk | hk
      · omega
      · have := hO k hk; have := hI.low k hk; omega
      · have := hm.own.lt k hk; omega)
    clear hI hg hok hm hAO hj hX hO ho hkl hkr hpk hkc hkm
    gi_wp2_with fail
    refine ⟨trivial, (fun h => by simp [Fence.wide] at h), (CallsIn.inRound l' (callsIn_wide.2 HC.out)).mono ?_⟩
    clear HC
    rintro e w3 (⟨he, rfl, hb⟩ | ⟨he, A', n', c', hm', ⟨hsrc, rfl, ho3, hloc⟩ | ⟨hsrc, rfl, ho3, hloc⟩⟩)
    · obtain ⟨z, hz⟩ : ∃ z, z = errK rows last x.2 := ⟨_, rfl⟩
      rw [← hz] at he
      rw [← hz]
      have d0 : (z != 0) = true := by simp [he]
      obtain ⟨w4, hw4⟩ : ∃ w4, w3.alloc (.cells #[.int .u32 0, .slice none 0 0] 51) = w4 := ⟨_, rfl⟩
      have hb4 : Below W2.heap.size W2 w4 := by rw [← hw4]; exact hb.alloc hb.size _
      have hH3 : H < w3.heap.size := by have := HM.out.lim; have := hb.size; omega
      have hby := (HI.out.box.past hb).cell (i := 0) rfl
      have hX2 : tellX (es.map (·.2)) = told rows ++ ((0, []), z) :: [] := by
        rw [HX.out, List.map_append, List.map_cons, hz]
        exact HGN.out.bad (by rw [← hz]; exact he)
      have hj4 := HJ.out.below HJ2.out hb4
      obtain ⟨fn, tmps, assign, body, hy, hRo⟩ := HY.out (EO H (H + 3) O (.slice A n c)) (told rows) ((0, []), z) [] #[.agg #[.int .u32 0, .slice none 0 0], .int .i64 z] w4 hX2 (HEO.out w4 hb4.size) (HI.out.out.trans (.of_below hb4)) hj4
        ⟨none, 0, 0, rfl, ⟨fun a e => (by cases e), rfl, (by show (0 : Nat) < 4294967296; decide), rfl, ⟨Nat.le_refl _, (by show (0 : Nat) ≤ 9223372036854775807; decide)⟩, Arcs.empty⟩, fun a e => (by cases e), 0, World.ownsRow_nil _ _ _ _⟩
      have HRo := Lib.hid hRo
      have HB4 := Lib.hid hb4
      have HW4 := Lib.hid hw4
      have HX2 := Lib.hid hX2
      clear hRo hb4 hj4 hz he hX2
      rw [← hw4] at hy
      clear hw4
      gi_wp2_with fail
      rw [HW4.out]
      refine ⟨(fun h => by simp [Fence.wide] at h), (roundIn_in HRo.out).mono ?_⟩
      rintro e W5 ⟨ho5, hj5⟩
      have FIN := Lib.hid (show Out (Ru.SO (fun k => S k ∨ k = H + 1) W3.heap.size O) W2 W5 ∧ EcX H (H + 3) S J Jx W es .ret O (pre ++ [x]) W5 from by
        rw [HS3.out]
        refine ⟨(Out.of_below HB4.out).trans (ec_in HHE.out ho5), rfl, HI.out.low, ?_, ec_old (HI.out.out.trans (.of_below HB4.out)) ho5, ?_⟩
        · have h1 := HM.out.lim; have h2 := HB4.out.size; have h3 := ho5.size; omega
        · rcases hj5 with ⟨-, hj5⟩ | ⟨-, hj5⟩
          · exact .inl (by rw [HX2.out]; exact HJ.out.less hj5 fun k hk => .inl (eo_sub k hk))
          · exact .inr ⟨_, [], by rw [List.append_nil]; exact HX2.out, HJX.out.less hj5 fun k hk => .inl (eo_sub k hk)⟩)
      rcases hj5 with ⟨rfl, -⟩ | ⟨rfl, -⟩
      · clear ho5 hy
        gi_wp2
        exact FIN.out
      · clear ho5 hy
        gi_wp2
        exact FIN.out
    · obtain ⟨w4, hw4⟩ : ∃ w4, w3.alloc (.cells #[.int .u32 0, .slice none 0 0] 51) = w4 := ⟨_, rfl⟩
      have hb4 : Below w3.heap.size w3 w4 := by rw [← hw4]; exact (Below.refl _ _).alloc (Nat.le_refl _) _
      have br4 : Blk w4 w3.heap.size [.int .u32 0, .slice none 0 0] := by rw [← hw4]; exact Blk.new w3 [.int .u32 0, .slice none 0 0] _
      have FIN := Lib.hid (show Out (Ru.SO (fun k => S k ∨ k = H + 1) W3.heap.size O) W2 w4 ∧ EcI l H (H + 3) hi S J W es O (pre ++ [x]) w4 from by
        rw [HS3.out]
        have hOn : ∀ k, (Value.slice A n c).ownBlock = some k → ¬ O k := HAO.out
        have ho4 : Out (fun k => k = H + 1 ∨ (Value.slice A n c).ownBlock = some k) W2 w4 := ho3.trans (.of_below hb4)
        have hown : ∀ k, (Value.slice A' n' c').ownBlock = some k → ¬ O k := fun k hk hO' => by
          rcases hloc k hk with h | h
          · exact hOn k h hO'
          · have := (HO.out k hO').2; omega
        refine ⟨ho4.more fun k _ hk => ?_, ⟨_, _, A', n', c', ?_, ?_, hm'.past hb4, hown, ?_⟩, ?_, HI.out.low, ?_⟩
        · rcases hk with hk | hk
          · exact .inl (.inr hk)
          · exact .inr ⟨(HM.out.own.lt k hk).1, hOn k hk⟩
        · rw [List.map_append]; exact HGN.out.next he
        · rw [List.length_append]; exact HOK.out.next he
        · rw [told_add, if_pos (.inl hsrc)]
          refine HJ.out _ _ _ _ _ HJ2.out (ho4.more fun k _ hk => ?_) fun k hk => ?_
          · rcases hk with hk | hk
            · exact .inl (by omega)
            · exact .inr (.inr hk)
          · rcases hk with hk | hk | hk
            · exact .inl (.inl hk)
            · exact .inl (.inr (.inl hk))
            · exact (hloc k hk).imp (fun h => .inr (.inr h)) id
        · exact HI.out.box.out ho4 (by
            rintro (h | h)
            · omega
            · have := (HM.out.own.lt _ h).1; omega)
        · refine HI.out.out.trans' ho4 fun k hk => .inr ?_
          have := HHE.out
          rcases hk with hk | hk
          · omega
          · have := (HM.out.own.lt k hk).1; omega)
      have z1 := br4.cell (i := 1) rfl
      have HW4 := Lib.hid hw4
      clear hb4 br4 ho3 hloc hm' he hsrc hw4
      gi_wp2_with fail
      refine ⟨fun f h => (by cases h), ?_⟩
      rw [HW4.out]
      gi_wp2
      exact FIN.out
    · obtain ⟨f0, hf0⟩ : ∃ f0, f0 = (mh rows).1 := ⟨_, rfl⟩
      rw [← hf0]
      obtain ⟨w4, hw4⟩ : ∃ w4, w3.alloc (.cells #[.int .u32 (f0 : Int), .slice A n c] 51) = w4 := ⟨_, rfl⟩
      have hb4 : Below w3.heap.size w3 w4 := by rw [← hw4]; exact (Below.refl _ _).alloc (Nat.le_refl _) _
      have br4 : Blk w4 w3.heap.size [.int .u32 (f0 : Int), .slice A n c] := by rw [← hw4]; exact Blk.new w3 [.int .u32 (f0 : Int), .slice A n c] _
      have ho4 : Out (fun k => k = H + 1) W2 w4 := ho3.trans (.of_below hb4)
      have hown : ∀ k, (Value.slice A' n' c').ownBlock = some k → ¬ O k := fun k hk hO' => by
        have := hloc k hk
        have := (HO.out k hO').2
        omega
      have hH3 : H < w3.heap.size := by have := HM.out.lim; have := ho3.size; omega
      have hby := ((HI.out.box.out ho3 (by omega)).cell (i := 0) rfl)
      have z0 := br4.cell (i := 0) rfl
      have z1 := br4.cell (i := 1) rfl
      have hm4 := hm'.past hb4
      have hO4 : ∀ k, EO H (H + 3) O (.slice A' n' c') k → W.heap.size ≤ k ∧ k < w4.heap.size := fun k hk => by
        have h1 := HHE.out
        have h2 := HM.out.lim
        have h3 := ho4.size
        rcases hk with hk | hk | hk
        · omega
        · have := HO.out k hk; have := HI.out.low k hk; omega
        · have := hm4.own.lt k hk; omega
      have hoW : Out S W w4 := HI.out.out.trans' ho4 fun k hk => .inr (by have := HHE.out; omega)
      have hj4 : J (EO H (H + 3) O (.slice A' n' c')) (told rows) w4 := by
        refine HJ.out _ _ _ _ _ HJ2.out (ho4.more fun k _ hk => .inl (by omega)) fun k hk => ?_
        rcases hk with hk | hk | hk
        · exact .inl (.inl hk)
        · exact .inl (.inr (.inl hk))
        · exact .inr (hloc k hk)
      have HP4 := Lib.hid (And.intro ho4 (And.intro hown (And.intro hm4 (And.intro hoW hO4))))
      have HJ4 := Lib.hid hj4
      have HSR := Lib.hid (And.intro he (And.intro hsrc hf0))
      have HW4 := Lib.hid hw4
      have HLN := Lib.hid hm'.len
      by_cases hn : n = 0
      · have hr0 : rows = [] := (mh_len HOK.out).1 (by rw [HM.out.len, hn])
        have FIN := Lib.hid (show Out (Ru.SO (fun k => S k ∨ k = H + 1) W3.heap.size O) W2 w4 ∧ EcI l H (H + 3) hi S J W es O (pre ++ [x]) w4 from by
          rw [HS3.out]
          refine ⟨ho4.more fun k _ hk => .inl (.inr hk), ⟨_, _, A', n', c', ?_, ?_, hm4, hown, ?_⟩, HI.out.box.out ho4 (by omega), HI.out.low, hoW⟩
          · rw [List.map_append]; exact HGN.out.next he
          · rw [List.length_append]; exact HOK.out.next he
          · rw [told_add, if_pos (.inr hr0)]
            exact hj4)
        subst hn
        clear hb4 br4 ho3 hloc hm' he hsrc hw4 ho4 hown hm4 hO4 hoW hj4 hf0 hr0
        gi_wp2_with fail
        refine ⟨fun f h => (by cases h), ?_⟩
        rw [HW4.out]
        gi_wp2
        exact FIN.out
      · have hn0 : 0 < n := by omega
        have hni : (0 : Int) < (n : Int) := by omega
        have hr0 : rows ≠ [] := fun e => hn (by rw [← HM.out.len, (mh_len HOK.out).2 e])
        obtain ⟨ext, hX2⟩ := HGN.out.row (m := post.map (·.2)) he hsrc hr0
        have hX3 : tellX (es.map (·.2)) = told rows ++ (((mh rows).1, arcM (mh rows).2), 0) :: ext := by
          rw [HX.out, List.map_append, List.map_cons]; exact hX2
        have hown4 : w4.ownsRow (H + 3) 55 2 (.slice A n c) n (arcCells (arcM (mh rows).2)) := own_out HM.out.own ho4 (fun k hk e => by have := (HM.out.own.lt k hk).1; omega)
        have hev := ev_row (v := .slice A' n' c') (O := O) HOK.out hown4 HM.out.len rfl HHE.out.symm hn0 (fun k hk => ⟨HAO.out k hk, fun e => by have := hloc k e; have := (HM.out.own.lt k hk).2; omega⟩)
        obtain ⟨fn, tmps, assign, body, hy, hRo⟩ := HY.out (EO H (H + 3) O (.slice A' n' c')) (told rows) _ _ _ w4 hX3 hO4 hoW hj4 hev
        rw [← hf0] at hy
        have HRo := Lib.hid hRo
        have HX3 := Lib.hid hX3
        have HR0 := Lib.hid hr0
        rw [← hw4] at hy
        have hfz : ∀ W' : World, W'.heap.size = W'.heap.size := fun _ => rfl
        clear hb4 br4 ho3 hloc hm' he hsrc ho4 hown hm4 hO4 hoW hj4 hf0 hr0 hX2 hX3 hown4 hev hRo hn hn0 hfz
        rw [← hw4] at z0 z1
        clear hw4
        gi_wp2_with fail
        rw [HW4.out]
        refine ⟨(fun h => by simp [Fence.wide] at h), (roundIn_in HRo.out).mono ?_⟩
        rintro e W5 ⟨ho5, ⟨rfl, hj5⟩ | ⟨rfl, hj5⟩⟩
        · have FIN := Lib.hid (show Out (Ru.SO (fun k => S k ∨ k = H + 1) W3.heap.size O) W2 W5 ∧ EcI l H (H + 3) hi S J W es O (pre ++ [x]) W5 from by
            obtain ⟨ho4, hown, hm4, hoW, hO4⟩ := HP4.out
            obtain ⟨he, hsrc, hf0⟩ := HSR.out
            rw [HS3.out]
            have hnG : ∀ k, EO H (H + 3) O (.slice A' n' c') k → ¬ Ru.SO S W.heap.size (EO H (H + 3) O (.slice A' n' c')) k := fun k hk h => h.elim (fun h => by have := (HS.out k h).1; have := (hO4 k hk).1; omega) (fun h => h.2 hk)
            refine ⟨(ho4.more fun k _ hk => .inl (.inr hk)).trans (ec_in HHE.out ho5), ⟨_, _, A', n', c', ?_, ?_, hm4.kept ho5 (hnG _ (.inl (by omega))) (fun k hk => hnG k (.inr (.inr hk))), hown, ?_⟩, (HI.out.box.out ho4 (by omega)).out ho5 (hnG _ (.inl (by omega))), HI.out.low, ec_old hoW ho5⟩
            · rw [List.map_append]; exact HGN.out.next he
            · rw [List.length_append]; exact HOK.out.next he
            · rw [told_add, if_neg (fun h => h.elim hsrc HR0.out)]
              exact hj5)
          clear ho5 hj5 hy z0 z1 hby
          gi_wp2
          exact FIN.out
        · have FIN := Lib.hid (show Out (Ru.SO (fun k => S k ∨ k = H + 1) W3.heap.size O) W2 W5 ∧ EcX H (H + 3) S J Jx W es .ret O (pre ++ [x]) W5 from by
            obtain ⟨ho4, hown, hm4, hoW, hO4⟩ := HP4.out
            rw [HS3.out]
            refine ⟨(ho4.more fun k _ hk => .inl (.inr hk)).trans (ec_in HHE.out ho5), rfl, HI.out.low, ?_, ec_old hoW ho5, .inr ⟨_, ext, ?_, HJX.out.less hj5 fun k hk => .inl (eo_sub k hk)⟩⟩
            · have h1 := HM.out.lim; have h2 := ho4.size; have h3 := ho5.size; omega
            · rw [HX3.out, List.append_assoc]; rfl)
          clear ho5 hj5 hy z0 z1 hby
          gi_wp2
          exact FIN.out
  case done =>
    rintro O D W2 hO hD hOD ho hI hK
    obtain ⟨rows, last, A, n, c, hg, hok, hm, hAO, hj⟩ := hI.ex
    have hD3 : D = H + 3 := by rw [hD, HS3.out]
    subst hD3
    obtain ⟨f0, hf0⟩ : ∃ f0, f0 = (mh rows).1 := ⟨_, rfl⟩
    have q0 := hm.box.cell (i := 0) rfl
    have q1 := hm.box.cell (i := 1) rfl
    rw [← hf0] at q0
    have hby := hI.box.cell (i := 0) rfl
    obtain ⟨O2, hO2⟩ : ∃ O2 : Nat → Prop, O2 = fun k => O k ∧ k < W2.heap.size := ⟨_, rfl⟩
    have hDlt : H + 3 < W2.heap.size := (Array.getElem?_eq_some_iff.1 hK).1
    have hD2 : O2 (H + 3) := by rw [hO2]; exact ⟨hOD, hDlt⟩
    have hlow : ∀ k, EO H (H + 3) O2 .nilFunc k → W.heap.size ≤ k ∧ k < W2.heap.size := fun k hk => by
      have h1 := HHE.out
      rw [hO2] at hk
      rcases hk with hk | hk | hk
      · omega
      · have := hI.low k hk.1; have := hk.2; omega
      · cases hk
    have hjn : J (EO H (H + 3) O2 .nilFunc) (told rows) W2 := HJ.out.less hj fun k hk => .inl (by
      rw [hO2] at hk
      rcases hk with hk | hk | hk
      · exact .inl hk
      · exact .inr (.inl hk.1)
      · cases hk)
    have hend : ∀ W5 : World, W5.heap[H + 3]? = some (.deferred (some [])) → Out S W W5 → J (EO H (H + 3) O2 .nilFunc) (tellX (es.map (·.2))) W5 ∨ (∃ p q, tellX (es.map (·.2)) = p ++ q ∧ Jx (EO H (H + 3) O2 .nilFunc) p W5) →
        Out S W (W5.putObj (H + 3) (.deferred none)) ∧ ∃ O : Nat → Prop, (∀ k, O k → W.heap.size ≤ k) ∧ (J O (tellX (es.map (·.2))) (W5.putObj (H + 3) (.deferred none)) ∨ ∃ p q, tellX (es.map (·.2)) = p ++ q ∧ Jx O p (W5.putObj (H + 3) (.deferred none))) := fun W5 _ ho5 hj5 => by
      refine ⟨ho5.trans' (Ru.put_out (O := fun k => k = H + 3) W5 (H + 3) _ rfl) (fun k hk => .inr (by have := HHE.out; omega)), _, fun k hk => (hlow k hk).1, ?_⟩
      rcases hj5 with hj5 | ⟨p, q, e, hj5⟩
      · exact .inl (HJ.out.put _ hj5 (.inr (.inl hD2)))
      · exact .inr ⟨p, q, e, HJX.out.put _ hj5 (.inr (.inl hD2))⟩
    have HEND := Lib.hid hend
    by_cases hn : n = 0
    · have hr0 : rows = [] := (mh_len hok).1 (by rw [hm.len, hn])
      have FIN := Lib.hid (hend W2 hK hI.out (.inl (by rw [hg.done, if_pos hr0]; exact hjn)))
      have HK := Lib.hid hK
      subst hn
      clear hI hg hok hm hAO hj hjn hK hO ho hD hr0 hend hlow hO2
      gi_wp2_with fail
      refine ⟨by simp, .inl ⟨_, _, rfl, run_takeDeferred HK.out, ?_⟩⟩
      obtain ⟨f1, O5, f2, f3⟩ := FIN.out
      refine ⟨_, results_none rfl _ _ _, ⟨_, rfl⟩, f1, O5, f2, ?_⟩
      rcases f3 with f3 | ⟨p, q, e, f3⟩
      · exact .inl f3
      · exact .inr ⟨p, ⟨q, e⟩, f3⟩
    · have hn0 : 0 < n := by omega
      have hni : (0 : Int) < (n : Int) := by omega
      have hr0 : rows ≠ [] := fun e => hn (by rw [← hm.len, (mh_len hok).2 e])
      have hX3 : tellX (es.map (·.2)) = told rows ++ (((mh rows).1, arcM (mh rows).2), 0) :: [] := by
        rw [hg.done, if_neg hr0]
      have hev := ev_row (v := .nilFunc) (O := O2) hok hm.own hm.len rfl HHE.out.symm hn0 (fun k hk => ⟨fun h => by rw [hO2] at h; exact hAO k hk h.1, fun e => by cases e⟩)
      obtain ⟨fn, tmps, assign, body, hy, hRo⟩ := HY.out (EO H (H + 3) O2 .nilFunc) (told rows) _ _ _ W2 hX3 hlow hI.out hjn hev
      rw [← hf0] at hy
      have HRo := Lib.hid hRo
      have HX3 := Lib.hid hX3
      have HOW := Lib.hid hI.out
      have HNB := Lib.hid (show ¬ Ru.SO S W.heap.size (EO H (H + 3) O2 .nilFunc) (H + 3) from fun h => h.elim (fun h => by have := (HS.out _ h).1; have := HHE.out; omega) (fun h => h.2 (.inr (.inl hD2))))
      have HK := Lib.hid hK
      clear hI hg hok hm hAO hj hjn hK hO ho hD hr0 hend hlow hO2 hX3 hev hRo hn hn0 hf0
      gi_wp2_with fail
      refine (roundIn_any HRo.out).mono ?_
      rintro e W5 ⟨ho5, hj5⟩
      have hK5 := Rt.heap_out ho5 HK.out HNB.out
      have FIN := Lib.hid (HEND.out W5 hK5 (ec_old HOW.out ho5) (by
        rcases hj5 with ⟨-, hj5⟩ | ⟨-, hj5⟩
        · exact .inl (by rw [HX3.out]; exact hj5)
        · exact .inr ⟨_, [], by rw [List.append_nil]; exact HX3.out, hj5⟩))
      have HK5 := Lib.hid hK5
      rcases hj5 with ⟨rfl, -⟩ | ⟨rfl, -⟩
      all_goals
        clear ho5 hy hK5
        gi_wp2_with fail
        refine ⟨by simp, .inl ⟨_, _, rfl, run_takeDeferred HK5.out, ?_⟩⟩
        obtain ⟨f1, O5, f2, f3⟩ := FIN.out
        refine ⟨_, results_none rfl _ _ _, ⟨_, rfl⟩, f1, O5, f2, ?_⟩
        rcases f3 with f3 | ⟨p, q, e, f3⟩
        · exact .inl f3
        · exact .inr ⟨p, q, e, f3⟩
  case stop =>
    rintro O D cc pre post W2 hO hD hOD ho hX ⟨rfl, hlo, hsz, hoW, hj⟩ hK
    have hD3 : D = H + 3 := by rw [hD, HS3.out]
    subst hD3
    have FIN := Lib.hid (show Out S W (W2.putObj (H + 3) (.deferred none)) ∧ ∃ O : Nat → Prop, (∀ k, O k → W.heap.size ≤ k) ∧ (J O (tellX (es.map (·.2))) (W2.putObj (H + 3) (.deferred none)) ∨ ∃ p q, tellX (es.map (·.2)) = p ++ q ∧ Jx O p (W2.putObj (H + 3) (.deferred none))) from by
      refine ⟨hoW.trans' (Ru.put_out (O := fun k => k = H + 3) W2 (H + 3) _ rfl) (fun k hk => .inr (by have := HHE.out; omega)), EO H (H + 3) O .nilFunc, fun k hk => ?_, ?_⟩
      · have h1 := HHE.out
        rcases hk with hk | hk | hk
        · omega
        · have := hlo k hk; omega
        · cases hk
      · rcases hj with hj | ⟨p, q, e, hj⟩
        · exact .inl (HJ.out.put _ hj (.inr (.inl hOD)))
        · exact .inr ⟨p, q, e, HJX.out.put _ hj (.inr (.inl hOD))⟩)
    have HK := Lib.hid hK
    clear hO hD ho hX hj hK hoW hlo
    gi_wp2_with fail
    refine ⟨by simp, .inl ⟨_, _, rfl, run_takeDeferred HK.out, ?_⟩⟩
    obtain ⟨f1, O5, f2, f3⟩ := FIN.out
    refine ⟨_, results_none rfl _ _ _, ⟨_, rfl⟩, f1, O5, f2, ?_⟩
    rcases f3 with f3 | ⟨p, q, e, f3⟩
    · exact .inl f3
    · exact .inr ⟨p, ⟨q, e⟩, f3⟩
end Go.Proofs.Yteaibgnelnblnaa
end
