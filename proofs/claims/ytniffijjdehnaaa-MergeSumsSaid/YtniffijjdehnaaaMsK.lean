/- palmerref14.Keys: the keys of edges. -/
import Derived.Test.YtniffijjdehnaaaMsS
namespace Go.Proofs.Ytniffijjdehnaaa
open Go.RowKit Me Tx Ed Mg Va

theorem bs_info : (Try.prog.info? 25).map (fun i => (i.zero, i.size, i.bytes)) = some (some (.slice none 0 0), 1, 24) := by kernel_rfl
/-- A text in memory, apart from a block. -/
def PcOff (w : World) (g : Option Nat) (p : Pc) : Prop := ∃ a n c, p.1 = .slice (some a) n c ∧ p.2.length = n ∧ n ≤ c ∧ c ≤ 9223372036854775807 ∧ a.block < w.heap.size ∧ (∀ i u, p.2[i]? = some u → w.cell? (a.add i) = some (.int .u8 (u.toNat : Int))) ∧ g ≠ some a.block
theorem PcOff.at {w : World} {g : Option Nat} {p : Pc} (h : PcOff w g p) : PcAt w w.heap.size p := by
  obtain ⟨a, n, c, h1, h2, h3, h4, h5, h6, -⟩ := h
  exact ⟨some a, n, c, h1, h2, h3, h4, fun _ => ⟨a, rfl, h5, h6⟩⟩
theorem PcOff.below {w w' : World} {g : Option Nat} {p : Pc} (h : PcOff w g p) (hb : Below w.heap.size w w') : PcOff w' g p := by
  obtain ⟨a, n, c, h1, h2, h3, h4, h5, h6, h7⟩ := h
  exact ⟨a, n, c, h1, h2, h3, h4, Nat.lt_of_lt_of_le h5 hb.size, fun i u hu => (hb.cell (by rw [block_add]; exact h5)).trans (h6 i u hu), h7⟩
theorem PcOff.grown {w w' : World} {g g' : Option Nat} {p : Pc} (h : PcOff w g p) (hg : w.grownBy w' g) (hn : g' = g ∨ g' = some w.heap.size) : PcOff w' g' p := by
  obtain ⟨a, n, c, h1, h2, h3, h4, h5, h6, h7⟩ := h
  refine ⟨a, n, c, h1, h2, h3, h4, Nat.lt_of_lt_of_le h5 hg.size, fun i u hu => ?_, ?_⟩
  · exact (World.cell?_of_block (a := a.add i) (hg.block _ (by rw [block_add]; exact h5) (by rw [block_add]; exact fun e => h7 e.symm))).trans (h6 i u hu)
  · rcases hn with rfl | rfl
    · exact h7
    · intro e; injection e with e; omega
/-- The keys that are there so far. -/
structure KsAt (w : World) (base : Nat) (A : Option Addr) (n c : Nat) (vs : List Pc) : Prop where
  own : w.ownsRow base 25 1 (.slice A n c) n (vs.map Prod.fst)
  all : ∀ p ∈ vs, PcOff w (Value.slice A n c).ownBlock p
theorem KsAt.rows {w : World} {base n c : Nat} {A : Option Addr} {vs : List Pc} (h : KsAt w base A n c vs) : BRows w w.heap.size A vs := ⟨Cs.of_own h.own, fun p hp => (h.all p hp).at⟩
theorem KsAt.len {w : World} {base n c : Nat} {A : Option Addr} {vs : List Pc} (h : KsAt w base A n c vs) : vs.length = n := by
  have := h.own.1
  rw [List.length_map] at this
  omega
set_option maxRecDepth 100000 in
set_option maxHeartbeats 2000000 in
theorem rkeys_any (Al : Option Addr) (n cl : Nat) (l : List EdD) (hl : l.length = n) (hn : n ≤ 1000000) (w : World) (hc : Cs w w.heap.size Al (edCells l)) (hf : ∀ x ∈ l, FitE x) :
    Calls Try.prog 20 #[.slice Al n cl] w fun e w' => ∃ A c es, e = .returned (.slice A n c) ∧ es.length = n ∧ n ≤ c ∧ c ≤ 9223372036854775807 ∧ es.map Prod.snd = l.map keyB ∧ BRows w' w'.heap.size A es ∧ Below w.heap.size w w' := by
  have HL := Lib.hid hl
  have HC := Lib.hid hc
  have HF := Lib.hid hf
  obtain ⟨i0, hi0, hz0, hz1, hz2⟩ := info_parts bs_info
  have H0 := Lib.hid (show KsAt (w.alloc (.cells #[] 25)) w.heap.size (some ⟨w.heap.size, 0, none⟩) 0 0 [] ∧ Below w.heap.size w (w.alloc (.cells #[] 25)) from
    ⟨⟨⟨rfl, .inr ⟨w.heap.size, 0, #[], rfl, Nat.le_refl _, heap_alloc_new w _, Nat.le_refl _, by decide, rfl, rfl⟩⟩, fun p hp => (by cases hp)⟩, (Below.refl _ _).alloc (Nat.le_refl _) _⟩)
  clear hl hc hf
  go_enter Try.func20, Try.ntmps20
  go_wp2
  go_loopw [3, 8] (fun v kv wr => ∃ (k : Nat) (A : Option Addr) (c : Nat) (vs : List Pc), v = .slice A k c ∧ kv = .int .i64 (k : Int) ∧ k ≤ n ∧ Hid (KsAt wr w.heap.size A k c vs) ∧ Hid (vs.map Prod.snd = (l.take k).map keyB) ∧ Hid (Below w.heap.size w wr)) (fun _ kv _ => n - (intOf kv).toNat)
  case atStart => exact ⟨0, some ⟨w.heap.size, 0, none⟩, 0, [], rfl, rfl, Nat.zero_le _, Lib.hid H0.out.1, Lib.hid rfl, Lib.hid H0.out.2⟩
  case round =>
    clear H0
    obtain ⟨wo, rfl⟩ : ∃ wo, wo = wr := ⟨_, rfl⟩
    obtain ⟨k, A, c, vs, rfl, rfl, hk, HO, HV, HB⟩ := hrel
    by_cases hlt : k < n
    · obtain ⟨x, hx⟩ : ∃ x, l[k]? = some x := ⟨_, List.getElem?_eq_getElem (by rw [HL.out]; exact hlt)⟩
      obtain ⟨al, rfl, hab, hat⟩ := eds_at HC.out hx
      obtain ⟨x0, x1, x2⟩ := hat.below HB.out (by rw [block_add]; exact hab)
      have HX := Lib.hid hx
      have HKY := Lib.hid (rkey_any x (HF.out x (List.mem_of_getElem? hx)) wo)
      have hlt2 : (k : Int) < (n : Int) := by omega
      clear hx hat hab
      go_wp2_with fail
      refine HKY.out.mono ?_
      rintro e w1 h1
      obtain ⟨A1, n1, k1, rfl, hl1, hn1, ho1, hr1, hb1⟩ := h1.open
      rw [keyB_length] at hl1
      subst hl1
      obtain ⟨w1a, hw1a⟩ : ∃ w1a, w1a = w1.alloc (.cells #[.slice A1 12 k1] 25) := ⟨_, rfl⟩
      have hb1a : Below w1.heap.size w1 w1a := by rw [hw1a]; exact (Below.refl _ _).alloc (Nat.le_refl _) _
      have HB1 := Lib.hid hb1
      have HB1a := Lib.hid hb1a
      have HS1 := Lib.hid (show w1a.heap.size = w1.heap.size + 1 by rw [hw1a]; simp)
      have HNEW := Lib.hid (show PcOff w1a (Value.slice A k c).ownBlock (.slice A1 12 k1, keyB x) from by
        obtain ⟨a, rfl, hlt1, hcl⟩ := hr1 (by rw [keyB_length]; omega)
        have hbs := own_bounds ho1
        obtain ⟨g, cap, hf', hg1, -⟩ := ho1.form (by omega)
        refine ⟨a, 12, k1, rfl, keyB_length x, hbs.1, hbs.2, Nat.lt_of_lt_of_le hlt1 hb1a.size, fun i u hu => (hb1a.cell (by rw [block_add]; exact hlt1)).trans (hcl i u hu), fun e => ?_⟩
        have h2 := (HO.out.own.lt _ e).2
        have h3 := (ho1.lt a.block rfl).1
        omega)
      have HOA := Lib.hid (own_below' (own_below' HO.out.own hb1) hb1a)
      have HALL := Lib.hid (show ∀ p ∈ vs, PcOff w1a (Value.slice A k c).ownBlock p from fun p hp => ((HO.out.all p hp).below hb1).below hb1a)
      have HC1 := Lib.hid (show ∀ j u, ([.slice A1 12 k1] : List Value)[j]? = some u → w1a.cell? ((⟨w1.heap.size, 0, none⟩ : Addr).add j) = some u from by rw [hw1a]; exact cell_one_new w1 _ _)
      have HMX := Lib.hid (show k + 1 ≤ maxLen ∧ (k + 1) * 24 ≤ 140737488355328 by unfold maxLen; omega)
      have HW1A := Lib.hid hw1a
      have hws := HB.out.size
      clear h1 hn1 ho1 hr1 hb1 hb1a hw1a x0 x1 x2
      go_wp2_with (at_builtin
                   rw [← HW1A.out]
                   go_loud (refine wpList_append_own_at _ rfl (.tmp 11) (.tmp 17) 35 rfl w.heap.size 25 i0 _ 1 24 Try.underlying35 hi0 hz0 hz1 hz2 rfl (by decide) (.slice A k c) k _ rfl HOA.out ⟨w1.heap.size, 0, none⟩ 1 1 [.slice A1 12 k1] rfl rfl HC1.out (fun u hu => by rw [List.mem_singleton.1 hu]; rfl) HMX.out.1 HMX.out.2 (by have := HB1.out.size; rw [HS1.out]; omega) ?_)
                   intro v7 w7 ho7 hg7 hnn7 hn7
                   refine Classical.byContradiction fun hcontra => ?_)
      obtain ⟨A7, c7, hv7, -⟩ := own_slice' ho7
      subst hv7
      have HO7 := Lib.hid (show KsAt w7 w.heap.size A7 (k + 1) c7 (vs ++ [(.slice A1 12 k1, keyB x)]) from ⟨by rw [List.map_append]; exact ho7, fun p hp => by
        rcases List.mem_append.1 hp with hp | hp
        · exact (HALL.out p hp).grown hg7 hn7
        · rw [List.mem_singleton.1 hp]; exact HNEW.out.grown hg7 hn7⟩)
      have HV7 := Lib.hid (show (vs ++ [((.slice A1 12 k1 : Value), keyB x)]).map Prod.snd = (l.take (k + 1)).map keyB from by
        rw [List.map_append, HV.out, List.take_add_one, HX.out, List.map_append]
        rfl)
      have HB7 := Lib.hid (show Below w.heap.size w w7 from by
        have h1 := HB.out.trans ((HB1.out.trans (HB1a.out.mono HB1.out.size)).mono HB.out.size)
        exact h1.grown hg7 h1.size (fun j e => (HOA.out.lt j e).1))
      clear ho7 hg7 hnn7 hn7
      apply hcontra
      clear hcontra
      go_wp2
      go_roundw
      case rel => exact ⟨k + 1, A7, c7, _, rfl, by go_num, by omega, HO7, HV7, HB7⟩
      case measure => simp [intOf]; omega
    · have e : k = n := by omega
      subst e
      have HE := Lib.hid (show l.take k = l by rw [List.take_of_length_le (by rw [HL.out]; exact Nat.le_refl _)])
      go_wp2
      go_ret
      have hbs := own_bounds HO.out.own
      exact ⟨A, c, vs, rfl, HO.out.len, hbs.1, hbs.2, by rw [HV.out, HE.out], HO.out.rows, HB.out⟩
end Go.Proofs.Ytniffijjdehnaaa
