/- Texts put together, for a law: GqG, NuF. -/
import Derived.Test.YteaibgnelnblnaaKG24
import Derived.Test.YteaibgnelnblnaaKG26
import Derived.Test.YteaibgnelnblnaaKG25
import Derived.Test.YteaibgnelnblnaaKG1
section
namespace Go.Proofs.Yteaibgnelnblnaa
open Go.RowKit Me Tx Ed Mg Va

theorem insE_perm (x : EdD) : ∀ l : List EdD, (insE x l).Perm (x :: l)
  | [] => List.Perm.refl _
  | y :: l => by
    rw [insE]
    split
    · exact List.Perm.refl _
    · exact ((insE_perm x l).cons y).trans (List.Perm.swap x y l)
theorem fold_perm : ∀ (l out : List EdD), (l.foldl (fun out x => insE x out) out).Perm (l ++ out)
  | [], out => List.Perm.refl _
  | x :: l, out => by
    rw [List.foldl_cons]
    refine (fold_perm l (insE x out)).trans ?_
    refine ((insE_perm x out).append_left l).trans ?_
    exact List.perm_middle
theorem sortE_perm (l : List EdD) : (sortE l).Perm l := by
  have := fold_perm l []
  rwa [List.append_nil] at this
theorem keys_rise {l : List EdD} (hf : ∀ x ∈ l, FitE x) : Rn.Rises ((sortE l).map keyB) := by
  unfold Rn.Rises
  rw [List.pairwise_map]
  refine List.Pairwise.imp_of_mem ?_ (srt_sort l)
  intro a b ha hb h
  show Op.bytesLess (keyB b) (keyB a) = false
  rw [less_key (hf b ((mem_sort l).1 hb)) (hf a ((mem_sort l).1 ha))]
  exact h
theorem dis_len15 (l : List EdD) : (dis l).length ≤ l.length := by
  unfold dis
  have key : ∀ (l : List EdD) (acc : List (Nat × Nat)), (l.foldl (fun acc x => if (x.src, x.dst) ∈ acc then acc else (x.src, x.dst) :: acc) acc).length ≤ acc.length + l.length := by
    intro l
    induction l with
    | nil => intro acc; simp
    | cons x l ih =>
      intro acc
      rw [List.foldl_cons, List.length_cons]
      split
      · have := ih acc; omega
      · have := ih ((x.src, x.dst) :: acc); rw [List.length_cons] at this; omega
  have := key l []
  simpa using this
theorem cntR_edges : ∀ L : List RwD, (edgesG L).length = cntR L
  | [] => rfl
  | r :: L => by
    have h3 : edgesG (r :: L) = edsR r ++ edgesG L := rfl
    rw [h3, List.length_append, edsR_length, cntR_edges L]
    rfl
theorem OfOk.short {l : List EdD} {R : List RowR} (h : OfOk l R) : (edgesG (rowM R)).length ≤ l.length := by
  rw [cntR_edges, (sums_ok h.pos h.rows h.wt h.wf h.few).num]
  exact dis_len15 l
theorem ks_graph {w w1 w2 : World} {l : List EdD} {A : Option Addr} {n c : Nat} (hz : (ofG l).2 = 0) (hfew : l.length ≤ 1000000) (hb : Below w.heap.size w w1) (h1 : (rowM (ofG l).1).length = n) (h2 : n ≤ c) (h3 : c ≤ 9223372036854775807) (h4 : RowsAt w1 w.heap.size w1.heap.size A (rowM (ofG l).1)) (hw2 : w2 = w1.alloc (.cells #[.slice A n c] 69)) :
    GfPost w (rowM (ofG l).1, (ofG l).2) (.returned (.tuple #[.pointer (some ⟨w1.heap.size, 0, none⟩), .int .i64 0])) w2 := by
  have hg := ofG_good hz
  have hok := hg.graph
  have hs := hg.short
  have hb2 : Below w1.heap.size w1 w2 := by rw [hw2]; exact (Below.refl _ _).alloc (Nat.le_refl _) _
  have hs2 : w2.heap.size = w1.heap.size + 1 := by rw [hw2]; simp
  have hn := edges_few hok
  refine ⟨some ⟨w1.heap.size, 0, none⟩, A, n, c, by rw [hz], fun h => absurd hz h, ⟨.inr ⟨_, rfl, hb.size, by omega, by rw [hw2]; exact Blk.new w1 [.slice A n c] _⟩, (h4.below hb2).more hb2.size, h1, ⟨h2, h3⟩, hok, ⟨by rw [← h1]; omega, by show (edgesG (rowM (ofG l).1)).length ≤ _; omega⟩, Nat.le_refl _⟩, hb.trans (hb2.mono hb.size)⟩
set_option maxRecDepth 100000 in
set_option maxHeartbeats 2000000 in
theorem gof_any (L : Option Addr) (n c : Nat) (l : List EdD) (w : World) (hl : l.length = n) (hn : n ≤ 1000) (hc : Cs w w.heap.size L (edCells l)) (hf : ∀ x ∈ l, FitE x) :
    Calls Try.prog 9 #[.slice L n c] w (GfPost w (rowM (ofG l).1, (ofG l).2)) := by
  have HL := Lib.hid hl
  have HC := Lib.hid hc
  have HF := Lib.hid hf
  obtain ⟨i0, hi0, hz0, hz1, hz2⟩ := info_parts bs_info
  clear hl hc hf
  go_enter Try.func9, Try.ntmps9
  go_wp2
  go_loopw [4, 11] (fun v kv wr => ∃ (k : Nat) (A : Option Addr) (c : Nat) (vs : List Pc), v = .slice A k c ∧ kv = .int .i64 (k : Int) ∧ k ≤ n ∧ Hid (KsAt wr w.heap.size A k c vs) ∧ Hid (vs.map Prod.snd = (l.take k).map keyB ∧ ∀ j x, j < k → l[j]? = some x → 0 < x.wgt) ∧ Hid (Below w.heap.size w wr)) (fun _ kv _ => n - (intOf kv).toNat)
  case atStart => exact ⟨0, none, 0, [], rfl, rfl, Nat.zero_le _, Lib.hid ⟨World.ownsRow_nil _ _ _ _, fun p hp => (by cases hp)⟩, Lib.hid ⟨rfl, fun j x hj => by omega⟩, Lib.hid (Below.refl _ _)⟩
  case round =>
    obtain ⟨wo, rfl⟩ : ∃ wo, wo = wr := ⟨_, rfl⟩
    obtain ⟨k, A, c, vs, rfl, rfl, hk, HO, HV, HB⟩ := hrel
    by_cases hlt : k < n
    · obtain ⟨x, hx⟩ : ∃ x, l[k]? = some x := ⟨_, List.getElem?_eq_getElem (by rw [HL.out]; exact hlt)⟩
      obtain ⟨al, rfl, hab, hat⟩ := eds_at HC.out hx
      obtain ⟨x0, x1, x2⟩ := hat.below HB.out (by rw [block_add]; exact hab)
      have HX := Lib.hid hx
      have hFX := Lib.hid (HF.out x (List.mem_of_getElem? hx))
      have hlt2 : (k : Int) < (n : Int) := by omega
      clear hx hat hab
      by_cases hz : x.wgt = 0
      · have d0 : ((x.wgt : Int) == 0) = true := by simp [hz]
        have HQ := Lib.hid (show (rowM (ofG l).1, (ofG l).2) = ([], 9) from by
          rcases ofG_cases l with ⟨e, -⟩ | ⟨hp, -⟩
          · rw [e]; rfl
          · have := hp x (List.mem_of_getElem? HX.out); omega)
        have FIN := Lib.hid (fun o => (show Below w.heap.size w (wo.alloc o) from HB.out.alloc HB.out.size _))
        clear hz
        go_wp2
        go_ret2
        exact gf_bad HQ.out (FIN.out _)
      · have d0 : ((x.wgt : Int) == 0) = false := by rw [beq_eq_false_iff_ne]; omega
        obtain ⟨w0, hw0⟩ : ∃ w0, w0 = wo.alloc (.cells #[.int .u32 (x.src : Int), .int .u32 (x.dst : Int), .int .u32 (x.wgt : Int)] 58) := ⟨_, rfl⟩
        have hb0 : Below wo.heap.size wo w0 := by rw [hw0]; exact (Below.refl _ _).alloc (Nat.le_refl _) _
        have HKY := Lib.hid (mkey_any x hFX.out w0)
        have HB0 := Lib.hid (HB.out.trans (hb0.mono HB.out.size))
        have HOA0 := Lib.hid (show KsAt w0 w.heap.size A k c vs from ⟨own_below' HO.out.own hb0, fun p hp => (HO.out.all p hp).below hb0⟩)
        have HPZ := Lib.hid (show ∀ j y, j < k + 1 → l[j]? = some y → 0 < y.wgt from fun j y hj hy => by
          by_cases hjk : j < k
          · exact HV.out.2 j y hjk hy
          · have e : j = k := by omega
            subst e
            rw [HX.out] at hy
            injection hy with hy
            subst hy
            omega)
        have HVV := Lib.hid HV.out.1
        have HW0 := Lib.hid hw0
        clear hz hw0 hb0 HO HV
        go_wp2_with fail
        rw [← HW0.out]
        refine HKY.out.mono ?_
        rintro e w1 h1
        obtain ⟨A1, n1, k1, rfl, hl1, hn1, ho1, hr1, hb1⟩ := h1.open
        rw [keyB_length] at hl1
        subst hl1
        obtain ⟨w1a, hw1a⟩ : ∃ w1a, w1a = w1.alloc (.cells #[.slice A1 12 k1] 62) := ⟨_, rfl⟩
        have hb1a : Below w1.heap.size w1 w1a := by rw [hw1a]; exact (Below.refl _ _).alloc (Nat.le_refl _) _
        have HB1 := Lib.hid hb1
        have HB1a := Lib.hid hb1a
        have HS1 := Lib.hid (show w1a.heap.size = w1.heap.size + 1 by rw [hw1a]; simp)
        have HNEW := Lib.hid (show PcOff w1a (Value.slice A k c).ownBlock (.slice A1 12 k1, keyB x) from by
          obtain ⟨a, rfl, hlt1, hcl⟩ := hr1 (by rw [keyB_length]; omega)
          have hbs := own_bounds ho1
          refine ⟨a, 12, k1, rfl, keyB_length x, hbs.1, hbs.2, Nat.lt_of_lt_of_le hlt1 hb1a.size, fun i u hu => (hb1a.cell (by rw [block_add]; exact hlt1)).trans (hcl i u hu), fun e => ?_⟩
          have h2 := (HOA0.out.own.lt _ e).2
          have h3 := (ho1.lt a.block rfl).1
          omega)
        have HOA := Lib.hid (own_below' (own_below' HOA0.out.own hb1) hb1a)
        have HALL := Lib.hid (show ∀ p ∈ vs, PcOff w1a (Value.slice A k c).ownBlock p from fun p hp => ((HOA0.out.all p hp).below hb1).below hb1a)
        have HC1 := Lib.hid (show ∀ j u, ([.slice A1 12 k1] : List Value)[j]? = some u → w1a.cell? ((⟨w1.heap.size, 0, none⟩ : Addr).add j) = some u from by rw [hw1a]; exact cell_one_new w1 _ _)
        have HMX := Lib.hid (show k + 1 ≤ maxLen ∧ (k + 1) * 24 ≤ 140737488355328 by unfold maxLen; omega)
        have HW1A := Lib.hid hw1a
        have hws := HB0.out.size
        clear h1 hn1 ho1 hr1 hb1 hb1a hw1a x0 x1 x2
        go_wp2_with (at_builtin
                     rw [← HW1A.out]
                     go_loud (refine wpList_append_own_at _ rfl (.tmp 18) (.tmp 21) 61 rfl w.heap.size 62 i0 _ 1 24 Try.underlying61 hi0 hz0 hz1 hz2 rfl (by decide) (.slice A k c) k _ rfl HOA.out ⟨w1.heap.size, 0, none⟩ 1 1 [.slice A1 12 k1] rfl rfl HC1.out (fun u hu => by rw [List.mem_singleton.1 hu]; rfl) HMX.out.1 HMX.out.2 (by have := HB1.out.size; rw [HS1.out]; omega) ?_)
                     intro v7 w7 ho7 hg7 hnn7 hn7
                     refine Classical.byContradiction fun hcontra => ?_)
        obtain ⟨A7, c7, hv7, -⟩ := own_slice' ho7
        subst hv7
        have HO7 := Lib.hid (show KsAt w7 w.heap.size A7 (k + 1) c7 (vs ++ [(.slice A1 12 k1, keyB x)]) from ⟨by rw [List.map_append]; exact ho7, fun p hp => by
          rcases List.mem_append.1 hp with hp | hp
          · exact (HALL.out p hp).grown hg7 hn7
          · rw [List.mem_singleton.1 hp]; exact HNEW.out.grown hg7 hn7⟩)
        have HV7 := Lib.hid (show (vs ++ [((.slice A1 12 k1 : Value), keyB x)]).map Prod.snd = (l.take (k + 1)).map keyB ∧ ∀ j x, j < k + 1 → l[j]? = some x → 0 < x.wgt from ⟨by
          rw [List.map_append, HVV.out, List.take_add_one, HX.out, List.map_append]
          rfl, HPZ.out⟩)
        have HB7 := Lib.hid (show Below w.heap.size w w7 from by
          have h1 := HB0.out.trans ((HB1.out.trans (HB1a.out.mono HB1.out.size)).mono HB0.out.size)
          exact h1.grown hg7 h1.size (fun j e => (HOA.out.lt j e).1))
        clear ho7 hg7 hnn7 hn7
        apply hcontra
        clear hcontra
        go_wp2
        go_roundw
        case rel => exact ⟨k + 1, A7, c7, _, rfl, by go_num, by omega, HO7, HV7, HB7⟩
        case measure => simp [intOf]; omega
    · have e : k = n := by omega
      subst e
      have HQ := Lib.hid (show ofG l = rowsG [] none (sortE l) from by
        unfold ofG
        rw [any_zero.2 fun x hx => by
          obtain ⟨i, hi, e⟩ := List.getElem_of_mem hx
          exact HV.out.2 i x (by rw [← HL.out]; exact hi) (by rw [List.getElem?_eq_getElem hi, e])]
        rfl)
      have HK := Lib.hid (keysG_edges (sortE l) [] none (sort_fit HF.out))
      have HVA := Lib.hid (show vs.map Prod.snd = l.map keyB from by rw [HV.out.1, List.take_of_length_le (by rw [HL.out]; exact Nat.le_refl _)])
      clear HV
      go_wp2_with fail
      refine (sortoff_any vs w.heap.size k c A (by omega) HO.out.own HO.out.all).mono ?_
      rintro e w2 ⟨rfl, es, hp, hri, hown, hout⟩
      have HES := Lib.hid (show es.map Prod.snd = (sortE l).map keyB from Rn.rises_one hri (keys_rise HF.out) (by
        have h1 := hp.map Prod.snd
        rw [HVA.out] at h1
        exact h1.trans ((sortE_perm l).map keyB).symm))
      have HB2 := Lib.hid (show Below w.heap.size w w2 from HB.out.trans (hout.below (fun i _ e => (HO.out.own.lt i e).1) HB.out.size))
      have HBR := Lib.hid (show BRows w2 w2.heap.size A es from ⟨Cs.of_own hown, fun p hq => ((HO.out.all p (hp.mem_iff.1 hq)).out hout).at⟩)
      have HM := Lib.hid (mrows_any A k c es w2 (by have := hp.length_eq; have := HO.out.len; omega) hn HBR.out)
      rw [HES.out, HK.out, ← HQ.out] at HM
      clear hp hri hown hout
      go_wp2_with fail
      refine HM.out.mono ?_
      intro e w3 h3
      obtain ⟨A3, n3, c3, rfl, h1, h2, h2', h4, hb3⟩ := h3.from_ HB2.out
      obtain ⟨z, hz⟩ : ∃ z, z = (ofG l).2 := ⟨_, rfl⟩
      rw [← hz]
      by_cases hz0 : z = 0
      · have d0 : (z != 0) = false := by simp [hz0]
        have FIN := Lib.hid (ks_graph (w2 := w3.alloc (.cells #[.slice A3 n3 c3] 69)) (hz.symm.trans hz0) (by rw [HL.out]; omega) hb3 h1 h2 h2' h4 rfl)
        clear hz hz0 h1 h2 h2' h4 hb3 h3
        go_wp2
        go_ret2
        exact FIN.out
      · have d0 : (z != 0) = true := by simp [hz0]
        have FIN := Lib.hid (show GfPost w (rowM (ofG l).1, (ofG l).2) (.returned (.tuple #[.pointer none, .int .i64 z])) w3 from gf_bad (by rw [ofG_bad (by rw [← hz]; exact hz0), ← hz]; rfl) hb3)
        clear hz hz0 h1 h2 h2' h4 hb3 h3
        go_wp2
        go_ret2
        exact FIN.out
end Go.Proofs.Yteaibgnelnblnaa
end
section
namespace Go.Proofs.Yteaibgnelnblnaa
open Go.RowKit Me Tx Ed Mg Va

set_option maxRecDepth 100000 in
theorem insertion_nil (A : Option Addr) (c : Nat) (w : World) : Calls Try.prog 83 #[.slice A 0 c, .int .i64 0, .int .i64 0] w fun e w' => e = .returned (.tuple #[]) ∧ w' = w := by
  go_enter Try.func83, Try.ntmps83
  go_wp2
  go_loopw [6] (fun iv wr => iv = .int .i64 1 ∧ wr = w) (fun _ _ => 0)
  case atStart => exact ⟨rfl, rfl⟩
  case round =>
    obtain ⟨rfl, rfl⟩ := hrel
    go_wp2
    go_end0
    exact ⟨rfl, rfl⟩
set_option maxRecDepth 100000 in
set_option maxHeartbeats 1000000 in
theorem pdq_few (base : Nat) (a0 : Addr) (n c a b : Nat) (lim : Int) (L : List Nat) (w : World) (h : NumAt w base a0 n c L) (hab : a ≤ b) (hb : b ≤ n) (hn : n ≤ 1000000000) (hfew : b ≤ a + 12) :
    Calls Try.prog 64 #[.slice (some a0) n c, .int .i64 (a : Int), .int .i64 (b : Int), .int .i64 lim] w (NPost w base a0 n c a b L (So a b) (.tuple #[])) := by
  have HIN := Lib.hid (insertion_any base a0 n c a b L w h hab hb hn)
  have d0 : (b : Int) - (a : Int) ≤ 12 := by omega
  obtain ⟨l, hl⟩ : ∃ l, l = b - a := ⟨_, rfl⟩
  have d1 : (b : Int) - (a : Int) = (l : Int) := by omega
  have d2 : l ≤ 12 := by omega
  clear h hl
  go_enter Try.func64, Try.ntmps64
  go_wp2
  go_loopw [1, 2] (fun av bv wr => av = .int .i64 (a : Int) ∧ bv = .int .i64 (b : Int) ∧ wr = w) (fun _ _ _ => 0)
  case atStart => exact ⟨rfl, rfl, rfl⟩
  case round =>
    obtain ⟨rfl, rfl, hw⟩ := hrel
    rw [hw]
    clear hw
    go_wp2_with fail
    refine HIN.out.mono ?_
    rintro e w1 h1
    have H1 := Lib.hid h1
    obtain ⟨rfl, -⟩ := h1
    go_wp2
    go_end0
    exact H1.out
set_option maxRecDepth 100000 in
theorem pdq_nil (A : Option Addr) (c : Nat) (lim : Int) (w : World) : Calls Try.prog 64 #[.slice A 0 c, .int .i64 0, .int .i64 0, .int .i64 lim] w fun e w' => e = .returned (.tuple #[]) ∧ w' = w := by
  have HIN := Lib.hid (insertion_nil A c w)
  go_enter Try.func64, Try.ntmps64
  go_wp2
  go_loopw [1, 2] (fun av bv wr => av = .int .i64 0 ∧ bv = .int .i64 0 ∧ wr = w) (fun _ _ _ => 0)
  case atStart => exact ⟨rfl, rfl, rfl⟩
  case round =>
    obtain ⟨rfl, rfl, hw⟩ := hrel
    rw [hw]
    clear hw
    go_wp2_with fail
    refine HIN.out.mono ?_
    rintro e w1 ⟨rfl, hw1⟩
    rw [hw1]
    clear hw1
    go_wp2
    refine bodyPost_ret (results_none rfl _ _ _) rfl ?_
    exact ⟨rfl, rfl⟩
theorem bitLen_top : ∀ f x : Nat, Lib.bitLenAux f x ≤ f
  | 0, x => by simp [Lib.bitLenAux]
  | f + 1, x => by
    have := bitLen_top f (x / 2)
    rw [Lib.bitLenAux]
    split <;> omega
/-- Numbers of one's own are put into order. -/
def Sorts (n : Nat) : Prop := ∀ (base : Nat) (a0 : Addr) (c : Nat) (L : List Nat) (w : World), NumAt w base a0 n c L →
  Calls Try.prog 41 #[.slice (some a0) n c] w (NPost w base a0 n c 0 n L (So 0 n) (.tuple #[]))
set_option maxRecDepth 100000 in
set_option maxHeartbeats 1000000 in
theorem sort_by {n : Nat} (hn : n ≤ 1000000000) (hp : ∀ (base : Nat) (a0 : Addr) (c : Nat) (L : List Nat) (lim : Nat) (w : World), lim ≤ 64 → NumAt w base a0 n c L → Calls Try.prog 64 #[.slice (some a0) n c, .int .i64 0, .int .i64 (n : Int), .int .i64 (lim : Int)] w (NPost w base a0 n c 0 n L (So 0 n) (.tuple #[]))) : Sorts n := by
  intro base a0 c L w h
  obtain ⟨lim, hlim⟩ : ∃ lim, lim = Lib.bitLen n := ⟨_, rfl⟩
  have HLE := Lib.hid (show lim ≤ 64 from by rw [hlim]; exact bitLen_top 64 n)
  have HP := Lib.hid (hp base a0 c L lim w HLE.out h)
  have HB := Lib.hid (Try.bits_Len (n : Int) w (by omega) (by omega))
  rw [show ((n : Int)).toNat = n by simp, ← hlim] at HB
  have hw : IntKind.u64.wrap (n : Int) = (n : Int) := by rw [IntKind.wrap_u64]; omega
  clear hp h hlim
  go_enter Try.func41, Try.ntmps41
  go_wp2_with fail
  refine HB.out.mono ?_
  rintro e w1 ⟨rfl, hw1⟩
  rw [hw1]
  clear hw1
  go_wp2_with fail
  refine HP.out.mono ?_
  rintro e w2 h2
  have H2 := Lib.hid h2
  obtain ⟨rfl, -⟩ := h2
  go_wp2
  go_end0
  exact H2.out
theorem sort_few {n : Nat} (hn : n ≤ 12) : Sorts n := sort_by (by omega) fun base a0 c L lim w _ h => by
  have := pdq_few base a0 n c 0 n (lim : Int) L w h (by omega) (by omega) (by omega) (by omega)
  exact this
set_option maxRecDepth 100000 in
theorem sort_nil (A : Option Addr) (c : Nat) (w : World) : Calls Try.prog 41 #[.slice A 0 c] w fun e w' => e = .returned (.tuple #[]) ∧ w' = w := by
  obtain ⟨lim, hlim⟩ : ∃ lim, lim = Lib.bitLen 0 := ⟨_, rfl⟩
  have HP := Lib.hid (pdq_nil A c (lim : Int) w)
  have HB := Lib.hid (Try.bits_Len 0 w (by omega) (by omega))
  rw [show (0 : Int).toNat = 0 by rfl, ← hlim] at HB
  clear hlim
  go_enter Try.func41, Try.ntmps41
  go_wp2_with fail
  refine HB.out.mono ?_
  rintro e w1 ⟨rfl, hw1⟩
  rw [hw1]
  clear hw1
  go_wp2_with fail
  refine HP.out.mono ?_
  rintro e w2 ⟨rfl, hw2⟩
  rw [hw2]
  clear hw2
  go_wp2
  go_end0
  exact ⟨rfl, rfl⟩
end Go.Proofs.Yteaibgnelnblnaa
end
