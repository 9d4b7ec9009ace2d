/- Texts put together, for a law: GqG, NuF, PqA, PqB, PqC, PqD, PqE, PqF, PqG, PqH. -/
import Derived.Deep.QuietTactic
import Derived.BigQuiet
import Derived.Test.YteaibgnelnblnaaKQ23
import Derived.Test.YteaibgnelnblnaaKQ25
import Derived.Test.YteaibgnelnblnaaKQ24
import Derived.Test.YteaibgnelnblnaaKQ1
section
namespace Go.Proofs.Yteaibgnelnblnaa
open Go.RowKit Me Tx Ed Mg Va

theorem insE_perm (x : EdD) : ∀ l : List EdD, (insE x l).Perm (x :: l)
  | [] => List.Perm.refl _
  | y :: l => by
    rw [insE]
    split
    · exact List.Perm.refl _
    · exact ((insE_perm x l).cons y).trans (List.Perm.swap x y l)
theorem fold_perm : ∀ (l out : List EdD), (l.foldl (fun out x => insE x out) out).Perm (l ++ out)
  | [], out => List.Perm.refl _
  | x :: l, out => by
    rw [List.foldl_cons]
    refine (fold_perm l (insE x out)).trans ?_
    refine ((insE_perm x out).append_left l).trans ?_
    exact List.perm_middle
theorem sortE_perm (l : List EdD) : (sortE l).Perm l := by
  have := fold_perm l []
  rwa [List.append_nil] at this
theorem keys_rise {l : List EdD} (hf : ∀ x ∈ l, FitE x) : Rn.Rises ((sortE l).map keyB) := by
  unfold Rn.Rises
  rw [List.pairwise_map]
  refine List.Pairwise.imp_of_mem ?_ (srt_sort l)
  intro a b ha hb h
  show Op.bytesLess (keyB b) (keyB a) = false
  rw [less_key (hf b ((mem_sort l).1 hb)) (hf a ((mem_sort l).1 ha))]
  exact h
theorem dis_len15 (l : List EdD) : (dis l).length ≤ l.length := by
  unfold dis
  have key : ∀ (l : List EdD) (acc : List (Nat × Nat)), (l.foldl (fun acc x => if (x.src, x.dst) ∈ acc then acc else (x.src, x.dst) :: acc) acc).length ≤ acc.length + l.length := by
    intro l
    induction l with
    | nil => intro acc; simp
    | cons x l ih =>
      intro acc
      rw [List.foldl_cons, List.length_cons]
      split
      · have := ih acc; omega
      · have := ih ((x.src, x.dst) :: acc); rw [List.length_cons] at this; omega
  have := key l []
  simpa using this
theorem cntR_edges : ∀ L : List RwD, (edgesG L).length = cntR L
  | [] => rfl
  | r :: L => by
    have h3 : edgesG (r :: L) = edsR r ++ edgesG L := rfl
    rw [h3, List.length_append, edsR_length, cntR_edges L]
    rfl
theorem OfOk.short {l : List EdD} {R : List RowR} (h : OfOk l R) : (edgesG (rowM R)).length ≤ l.length := by
  rw [cntR_edges, (sums_ok h.pos h.rows h.wt h.wf h.few).num]
  exact dis_len15 l
theorem ks_graph {w w1 w2 : World} {l : List EdD} {A : Option Addr} {n c : Nat} (hz : (ofG l).2 = 0) (hfew : l.length ≤ 1000000) (hb : Below w.heap.size w w1) (h1 : (rowM (ofG l).1).length = n) (h2 : n ≤ c) (h3 : c ≤ 9223372036854775807) (h4 : RowsAt w1 w.heap.size w1.heap.size A (rowM (ofG l).1)) (hw2 : w2 = w1.alloc (.cells #[.slice A n c] 69)) :
    GfPost w (rowM (ofG l).1, (ofG l).2) (.returned (.tuple #[.pointer (some ⟨w1.heap.size, 0, none⟩), .int .i64 0])) w2 := by
  have hg := ofG_good hz
  have hok := hg.graph
  have hs := hg.short
  have hb2 : Below w1.heap.size w1 w2 := by rw [hw2]; exact (Below.refl _ _).alloc (Nat.le_refl _) _
  have hs2 : w2.heap.size = w1.heap.size + 1 := by rw [hw2]; simp
  have hn := edges_few hok
  refine ⟨some ⟨w1.heap.size, 0, none⟩, A, n, c, by rw [hz], fun h => absurd hz h, ⟨.inr ⟨_, rfl, hb.size, by omega, by rw [hw2]; exact Blk.new w1 [.slice A n c] _⟩, (h4.below hb2).more hb2.size, h1, ⟨h2, h3⟩, hok, ⟨by rw [← h1]; omega, by show (edgesG (rowM (ofG l).1)).length ≤ _; omega⟩, Nat.le_refl _⟩, hb.trans (hb2.mono hb.size)⟩
set_option maxRecDepth 100000 in
set_option maxHeartbeats 2000000 in
theorem gof_any (L : Option Addr) (n c : Nat) (l : List EdD) (w : World) (hl : l.length = n) (hn : n ≤ 1000) (hc : Cs w w.heap.size L (edCells l)) (hf : ∀ x ∈ l, FitE x) :
    Calls Try.prog 9 #[.slice L n c] w (GfPost w (rowM (ofG l).1, (ofG l).2)) := by
  have HL := Lib.hid hl
  have HC := Lib.hid hc
  have HF := Lib.hid hf
  obtain ⟨i0, hi0, hz0, hz1, hz2⟩ := info_parts bs_info
  clear hl hc hf
  go_enter Try.func9, Try.ntmps9
  go_wp2
  go_loopw [4, 11] (fun v kv wr => ∃ (k : Nat) (A : Option Addr) (c : Nat) (vs : List Pc), v = .slice A k c ∧ kv = .int .i64 (k : Int) ∧ k ≤ n ∧ Hid (KsAt wr w.heap.size A k c vs) ∧ Hid (vs.map Prod.snd = (l.take k).map keyB ∧ ∀ j x, j < k → l[j]? = some x → 0 < x.wgt) ∧ Hid (Below w.heap.size w wr)) (fun _ kv _ => n - (intOf kv).toNat)
  case atStart => exact ⟨0, none, 0, [], rfl, rfl, Nat.zero_le _, Lib.hid ⟨World.ownsRow_nil _ _ _ _, fun p hp => (by cases hp)⟩, Lib.hid ⟨rfl, fun j x hj => by omega⟩, Lib.hid (Below.refl _ _)⟩
  case round =>
    obtain ⟨wo, rfl⟩ : ∃ wo, wo = wr := ⟨_, rfl⟩
    obtain ⟨k, A, c, vs, rfl, rfl, hk, HO, HV, HB⟩ := hrel
    by_cases hlt : k < n
    · obtain ⟨x, hx⟩ : ∃ x, l[k]? = some x := ⟨_, List.getElem?_eq_getElem (by rw [HL.out]; exact hlt)⟩
      obtain ⟨al, rfl, hab, hat⟩ := eds_at HC.out hx
      obtain ⟨x0, x1, x2⟩ := hat.below HB.out (by rw [block_add]; exact hab)
      have HX := Lib.hid hx
      have hFX := Lib.hid (HF.out x (List.mem_of_getElem? hx))
      have hlt2 : (k : Int) < (n : Int) := by omega
      clear hx hat hab
      by_cases hz : x.wgt = 0
      · have d0 : ((x.wgt : Int) == 0) = true := by simp [hz]
        have HQ := Lib.hid (show (rowM (ofG l).1, (ofG l).2) = ([], 9) from by
          rcases ofG_cases l with ⟨e, -⟩ | ⟨hp, -⟩
          · rw [e]; rfl
          · have := hp x (List.mem_of_getElem? HX.out); omega)
        have FIN := Lib.hid (fun o => (show Below w.heap.size w (wo.alloc o) from HB.out.alloc HB.out.size _))
        clear hz
        go_wp2
        go_ret2
        exact gf_bad HQ.out (FIN.out _)
      · have d0 : ((x.wgt : Int) == 0) = false := by rw [beq_eq_false_iff_ne]; omega
        obtain ⟨w0, hw0⟩ : ∃ w0, w0 = wo.alloc (.cells #[.int .u32 (x.src : Int), .int .u32 (x.dst : Int), .int .u32 (x.wgt : Int)] 58) := ⟨_, rfl⟩
        have hb0 : Below wo.heap.size wo w0 := by rw [hw0]; exact (Below.refl _ _).alloc (Nat.le_refl _) _
        have HKY := Lib.hid (mkey_any x hFX.out w0)
        have HB0 := Lib.hid (HB.out.trans (hb0.mono HB.out.size))
        have HOA0 := Lib.hid (show KsAt w0 w.heap.size A k c vs from ⟨own_below' HO.out.own hb0, fun p hp => (HO.out.all p hp).below hb0⟩)
        have HPZ := Lib.hid (show ∀ j y, j < k + 1 → l[j]? = some y → 0 < y.wgt from fun j y hj hy => by
          by_cases hjk : j < k
          · exact HV.out.2 j y hjk hy
          · have e : j = k := by omega
            subst e
            rw [HX.out] at hy
            injection hy with hy
            subst hy
            omega)
        have HVV := Lib.hid HV.out.1
        have HW0 := Lib.hid hw0
        clear hz hw0 hb0 HO HV
        go_wp2_with fail
        rw [← HW0.out]
        refine HKY.out.mono ?_
        rintro e w1 h1
        obtain ⟨A1, n1, k1, rfl, hl1, hn1, ho1, hr1, hb1⟩ := h1.open
        rw [keyB_length] at hl1
        subst hl1
        obtain ⟨w1a, hw1a⟩ : ∃ w1a, w1a = w1.alloc (.cells #[.slice A1 12 k1] 62) := ⟨_, rfl⟩
        have hb1a : Below w1.heap.size w1 w1a := by rw [hw1a]; exact (Below.refl _ _).alloc (Nat.le_refl _) _
        have HB1 := Lib.hid hb1
        have HB1a := Lib.hid hb1a
        have HS1 := Lib.hid (show w1a.heap.size = w1.heap.size + 1 by rw [hw1a]; simp)
        have HNEW := Lib.hid (show PcOff w1a (Value.slice A k c).ownBlock (.slice A1 12 k1, keyB x) from by
          obtain ⟨a, rfl, hlt1, hcl⟩ := hr1 (by rw [keyB_length]; omega)
          have hbs := own_bounds ho1
          refine ⟨a, 12, k1, rfl, keyB_length x, hbs.1, hbs.2, Nat.lt_of_lt_of_le hlt1 hb1a.size, fun i u hu => (hb1a.cell (by rw [block_add]; exact hlt1)).trans (hcl i u hu), fun e => ?_⟩
          have h2 := (HOA0.out.own.lt _ e).2
          have h3 := (ho1.lt a.block rfl).1
          omega)
        have HOA := Lib.hid (own_below' (own_below' HOA0.out.own hb1) hb1a)
        have HALL := Lib.hid (show ∀ p ∈ vs, PcOff w1a (Value.slice A k c).ownBlock p from fun p hp => ((HOA0.out.all p hp).below hb1).below hb1a)
        have HC1 := Lib.hid (show ∀ j u, ([.slice A1 12 k1] : List Value)[j]? = some u → w1a.cell? ((⟨w1.heap.size, 0, none⟩ : Addr).add j) = some u from by rw [hw1a]; exact cell_one_new w1 _ _)
        have HMX := Lib.hid (show k + 1 ≤ maxLen ∧ (k + 1) * 24 ≤ 140737488355328 by unfold maxLen; omega)
        have HW1A := Lib.hid hw1a
        have hws := HB0.out.size
        clear h1 hn1 ho1 hr1 hb1 hb1a hw1a x0 x1 x2
        go_wp2_with (at_builtin
                     rw [← HW1A.out]
                     go_loud (refine wpList_append_own_at _ rfl (.tmp 18) (.tmp 21) 61 rfl w.heap.size 62 i0 _ 1 24 Try.underlying61 hi0 hz0 hz1 hz2 rfl (by decide) (.slice A k c) k _ rfl HOA.out ⟨w1.heap.size, 0, none⟩ 1 1 [.slice A1 12 k1] rfl rfl HC1.out (fun u hu => by rw [List.mem_singleton.1 hu]; rfl) HMX.out.1 HMX.out.2 (by have := HB1.out.size; rw [HS1.out]; omega) ?_)
                     intro v7 w7 ho7 hg7 hnn7 hn7
                     refine Classical.byContradiction fun hcontra => ?_)
        obtain ⟨A7, c7, hv7, -⟩ := own_slice' ho7
        subst hv7
        have HO7 := Lib.hid (show KsAt w7 w.heap.size A7 (k + 1) c7 (vs ++ [(.slice A1 12 k1, keyB x)]) from ⟨by rw [List.map_append]; exact ho7, fun p hp => by
          rcases List.mem_append.1 hp with hp | hp
          · exact (HALL.out p hp).grown hg7 hn7
          · rw [List.mem_singleton.1 hp]; exact HNEW.out.grown hg7 hn7⟩)
        have HV7 := Lib.hid (show (vs ++ [((.slice A1 12 k1 : Value), keyB x)]).map Prod.snd = (l.take (k + 1)).map keyB ∧ ∀ j x, j < k + 1 → l[j]? = some x → 0 < x.wgt from ⟨by
          rw [List.map_append, HVV.out, List.take_add_one, HX.out, List.map_append]
          rfl, HPZ.out⟩)
        have HB7 := Lib.hid (show Below w.heap.size w w7 from by
          have h1 := HB0.out.trans ((HB1.out.trans (HB1a.out.mono HB1.out.size)).mono HB0.out.size)
          exact h1.grown hg7 h1.size (fun j e => (HOA.out.lt j e).1))
        clear ho7 hg7 hnn7 hn7
        apply hcontra
        clear hcontra
        go_wp2
        go_roundw
        case rel => exact ⟨k + 1, A7, c7, _, rfl, by go_num, by omega, HO7, HV7, HB7⟩
        case measure => simp [intOf]; omega
    · have e : k = n := by omega
      subst e
      have HQ := Lib.hid (show ofG l = rowsG [] none (sortE l) from by
        unfold ofG
        rw [any_zero.2 fun x hx => by
          obtain ⟨i, hi, e⟩ := List.getElem_of_mem hx
          exact HV.out.2 i x (by rw [← HL.out]; exact hi) (by rw [List.getElem?_eq_getElem hi, e])]
        rfl)
      have HK := Lib.hid (keysG_edges (sortE l) [] none (sort_fit HF.out))
      have HVA := Lib.hid (show vs.map Prod.snd = l.map keyB from by rw [HV.out.1, List.take_of_length_le (by rw [HL.out]; exact Nat.le_refl _)])
      clear HV
      go_wp2_with fail
      refine (sortoff_any vs w.heap.size k c A (by omega) HO.out.own HO.out.all).mono ?_
      rintro e w2 ⟨rfl, es, hp, hri, hown, hout⟩
      have HES := Lib.hid (show es.map Prod.snd = (sortE l).map keyB from Rn.rises_one hri (keys_rise HF.out) (by
        have h1 := hp.map Prod.snd
        rw [HVA.out] at h1
        exact h1.trans ((sortE_perm l).map keyB).symm))
      have HB2 := Lib.hid (show Below w.heap.size w w2 from HB.out.trans (hout.below (fun i _ e => (HO.out.own.lt i e).1) HB.out.size))
      have HBR := Lib.hid (show BRows w2 w2.heap.size A es from ⟨Cs.of_own hown, fun p hq => ((HO.out.all p (hp.mem_iff.1 hq)).out hout).at⟩)
      have HM := Lib.hid (mrows_any A k c es w2 (by have := hp.length_eq; have := HO.out.len; omega) hn HBR.out)
      rw [HES.out, HK.out, ← HQ.out] at HM
      clear hp hri hown hout
      go_wp2_with fail
      refine HM.out.mono ?_
      intro e w3 h3
      obtain ⟨A3, n3, c3, rfl, h1, h2, h2', h4, hb3⟩ := h3.from_ HB2.out
      obtain ⟨z, hz⟩ : ∃ z, z = (ofG l).2 := ⟨_, rfl⟩
      rw [← hz]
      by_cases hz0 : z = 0
      · have d0 : (z != 0) = false := by simp [hz0]
        have FIN := Lib.hid (ks_graph (w2 := w3.alloc (.cells #[.slice A3 n3 c3] 69)) (hz.symm.trans hz0) (by rw [HL.out]; omega) hb3 h1 h2 h2' h4 rfl)
        clear hz hz0 h1 h2 h2' h4 hb3 h3
        go_wp2
        go_ret2
        exact FIN.out
      · have d0 : (z != 0) = true := by simp [hz0]
        have FIN := Lib.hid (show GfPost w (rowM (ofG l).1, (ofG l).2) (.returned (.tuple #[.pointer none, .int .i64 z])) w3 from gf_bad (by rw [ofG_bad (by rw [← hz]; exact hz0), ← hz]; rfl) hb3)
        clear hz hz0 h1 h2 h2' h4 hb3 h3
        go_wp2
        go_ret2
        exact FIN.out
end Go.Proofs.Yteaibgnelnblnaa
end
section
namespace Go.Proofs.Yteaibgnelnblnaa
open Go.RowKit Me Tx Ed Mg Va

set_option maxRecDepth 100000 in
theorem insertion_nil (A : Option Addr) (c : Nat) (w : World) : Calls Try.prog 83 #[.slice A 0 c, .int .i64 0, .int .i64 0] w fun e w' => e = .returned (.tuple #[]) ∧ w' = w := by
  go_enter Try.func83, Try.ntmps83
  go_wp2
  go_loopw [6] (fun iv wr => iv = .int .i64 1 ∧ wr = w) (fun _ _ => 0)
  case atStart => exact ⟨rfl, rfl⟩
  case round =>
    obtain ⟨rfl, rfl⟩ := hrel
    go_wp2
    go_end0
    exact ⟨rfl, rfl⟩
set_option maxRecDepth 100000 in
set_option maxHeartbeats 1000000 in
theorem pdq_few (base : Nat) (a0 : Addr) (n c a b : Nat) (lim : Int) (L : List Nat) (w : World) (h : NumAt w base a0 n c L) (hab : a ≤ b) (hb : b ≤ n) (hn : n ≤ 1000000000) (hfew : b ≤ a + 12) :
    Calls Try.prog 64 #[.slice (some a0) n c, .int .i64 (a : Int), .int .i64 (b : Int), .int .i64 lim] w (NPost w base a0 n c a b L (So a b) (.tuple #[])) := by
  have HIN := Lib.hid (insertion_any base a0 n c a b L w h hab hb hn)
  have d0 : (b : Int) - (a : Int) ≤ 12 := by omega
  obtain ⟨l, hl⟩ : ∃ l, l = b - a := ⟨_, rfl⟩
  have d1 : (b : Int) - (a : Int) = (l : Int) := by omega
  have d2 : l ≤ 12 := by omega
  clear h hl
  go_enter Try.func64, Try.ntmps64
  go_wp2
  go_loopw [1, 2] (fun av bv wr => av = .int .i64 (a : Int) ∧ bv = .int .i64 (b : Int) ∧ wr = w) (fun _ _ _ => 0)
  case atStart => exact ⟨rfl, rfl, rfl⟩
  case round =>
    obtain ⟨rfl, rfl, hw⟩ := hrel
    rw [hw]
    clear hw
    go_wp2_with fail
    refine HIN.out.mono ?_
    rintro e w1 h1
    have H1 := Lib.hid h1
    obtain ⟨rfl, -⟩ := h1
    go_wp2
    go_end0
    exact H1.out
set_option maxRecDepth 100000 in
theorem pdq_nil (A : Option Addr) (c : Nat) (lim : Int) (w : World) : Calls Try.prog 64 #[.slice A 0 c, .int .i64 0, .int .i64 0, .int .i64 lim] w fun e w' => e = .returned (.tuple #[]) ∧ w' = w := by
  have HIN := Lib.hid (insertion_nil A c w)
  go_enter Try.func64, Try.ntmps64
  go_wp2
  go_loopw [1, 2] (fun av bv wr => av = .int .i64 0 ∧ bv = .int .i64 0 ∧ wr = w) (fun _ _ _ => 0)
  case atStart => exact ⟨rfl, rfl, rfl⟩
  case round =>
    obtain ⟨rfl, rfl, hw⟩ := hrel
    rw [hw]
    clear hw
    go_wp2_with fail
    refine HIN.out.mono ?_
    rintro e w1 ⟨rfl, hw1⟩
    rw [hw1]
    clear hw1
    go_wp2
    refine bodyPost_ret (results_none rfl _ _ _) rfl ?_
    exact ⟨rfl, rfl⟩
theorem bitLen_top : ∀ f x : Nat, Lib.bitLenAux f x ≤ f
  | 0, x => by simp [Lib.bitLenAux]
  | f + 1, x => by
    have := bitLen_top f (x / 2)
    rw [Lib.bitLenAux]
    split <;> omega
/-- Numbers of one's own are put into order. -/
def Sorts (n : Nat) : Prop := ∀ (base : Nat) (a0 : Addr) (c : Nat) (L : List Nat) (w : World), NumAt w base a0 n c L →
  Calls Try.prog 41 #[.slice (some a0) n c] w (NPost w base a0 n c 0 n L (So 0 n) (.tuple #[]))
set_option maxRecDepth 100000 in
set_option maxHeartbeats 1000000 in
theorem sort_by {n : Nat} (hn : n ≤ 1000000000) (hp : ∀ (base : Nat) (a0 : Addr) (c : Nat) (L : List Nat) (lim : Nat) (w : World), lim ≤ 64 → NumAt w base a0 n c L → Calls Try.prog 64 #[.slice (some a0) n c, .int .i64 0, .int .i64 (n : Int), .int .i64 (lim : Int)] w (NPost w base a0 n c 0 n L (So 0 n) (.tuple #[]))) : Sorts n := by
  intro base a0 c L w h
  obtain ⟨lim, hlim⟩ : ∃ lim, lim = Lib.bitLen n := ⟨_, rfl⟩
  have HLE := Lib.hid (show lim ≤ 64 from by rw [hlim]; exact bitLen_top 64 n)
  have HP := Lib.hid (hp base a0 c L lim w HLE.out h)
  have HB := Lib.hid (Try.bits_Len (n : Int) w (by omega) (by omega))
  rw [show ((n : Int)).toNat = n by simp, ← hlim] at HB
  have hw : IntKind.u64.wrap (n : Int) = (n : Int) := by rw [IntKind.wrap_u64]; omega
  clear hp h hlim
  go_enter Try.func41, Try.ntmps41
  go_wp2_with fail
  refine HB.out.mono ?_
  rintro e w1 ⟨rfl, hw1⟩
  rw [hw1]
  clear hw1
  go_wp2_with fail
  refine HP.out.mono ?_
  rintro e w2 h2
  have H2 := Lib.hid h2
  obtain ⟨rfl, -⟩ := h2
  go_wp2
  go_end0
  exact H2.out
theorem sort_few {n : Nat} (hn : n ≤ 12) : Sorts n := sort_by (by omega) fun base a0 c L lim w _ h => by
  have := pdq_few base a0 n c 0 n (lim : Int) L w h (by omega) (by omega) (by omega) (by omega)
  exact this
set_option maxRecDepth 100000 in
theorem sort_nil (A : Option Addr) (c : Nat) (w : World) : Calls Try.prog 41 #[.slice A 0 c] w fun e w' => e = .returned (.tuple #[]) ∧ w' = w := by
  obtain ⟨lim, hlim⟩ : ∃ lim, lim = Lib.bitLen 0 := ⟨_, rfl⟩
  have HP := Lib.hid (pdq_nil A c (lim : Int) w)
  have HB := Lib.hid (Try.bits_Len 0 w (by omega) (by omega))
  rw [show (0 : Int).toNat = 0 by rfl, ← hlim] at HB
  clear hlim
  go_enter Try.func41, Try.ntmps41
  go_wp2_with fail
  refine HB.out.mono ?_
  rintro e w1 ⟨rfl, hw1⟩
  rw [hw1]
  clear hw1
  go_wp2_with fail
  refine HP.out.mono ?_
  rintro e w2 ⟨rfl, hw2⟩
  rw [hw2]
  clear hw2
  go_wp2
  go_end0
  exact ⟨rfl, rfl⟩
end Go.Proofs.Yteaibgnelnblnaa
end
section
namespace Go.Proofs.Yteaibgnelnblnaa
open Go.RowKit Me Tx Ed Mg Va

theorem NumAt.out {w w' : World} {base n c : Nat} {a0 : Addr} {L : List Nat} {T : Nat → Prop} (h : NumAt w base a0 n c L) (ho : Out T w w') (hT : ¬ T a0.block) : NumAt w' base a0 n c L :=
  ⟨own_out h.own ho fun k e t => by injection e with e; rw [← e] at t; exact hT t⟩
theorem NumAt.drewN {w : World} {base n c : Nat} {a0 : Addr} {L : List Nat} (h : NumAt w base a0 n c L) (q : Nat) : NumAt (w.drewN q) base a0 n c L := h.out (out_drewN (fun _ => False) w q) id
/-- A counter in a block of its own. -/
def Ctr (w : World) (g : Nat) : Prop := ∃ z : Int, Blk w g [.int .i64 z]
theorem Ctr.out {w w' : World} {g : Nat} {T : Nat → Prop} (h : Ctr w g) (ho : Out T w w') (hT : ¬ T g) : Ctr w' g := by
  obtain ⟨z, hz⟩ := h
  exact ⟨z, hz.out ho hT⟩
def OrdP (w : World) (g a b : Nat) (e : Ending) (w' : World) : Prop :=
  ∃ a' b' : Nat, e = .returned (.tuple #[.int .i64 (a' : Int), .int .i64 (b' : Int)]) ∧ ((a' = a ∧ b' = b) ∨ (a' = b ∧ b' = a)) ∧ Ctr w' g ∧ Out (fun k => k = g) w w'
set_option maxRecDepth 100000 in
set_option maxHeartbeats 1000000 in
theorem order2_any (base : Nat) (a0 : Addr) (n c a b g : Nat) (L : List Nat) (w : World) (h : NumAt w base a0 n c L) (ha : a < n) (hb : b < n) (hg : Ctr w g) :
    Calls Try.prog 110 #[.slice (some a0) n c, .int .i64 (a : Int), .int .i64 (b : Int), .pointer (some ⟨g, 0, none⟩)] w (OrdP w g a b) := by
  obtain ⟨z, hz⟩ := hg
  obtain ⟨x0, -⟩ := h.get ha
  obtain ⟨y0, -⟩ := h.get hb
  have HLS := Lib.hid less_any
  obtain ⟨x, hx⟩ : ∃ x, x = nat_ L a := ⟨_, rfl⟩
  obtain ⟨y, hy⟩ : ∃ y, y = nat_ L b := ⟨_, rfl⟩
  rw [← hx] at x0
  rw [← hy] at y0
  have ha2 : (a : Int) < (n : Int) := by omega
  have hb2 : (b : Int) < (n : Int) := by omega
  have HZ := Lib.hid hz
  obtain ⟨q, hq⟩ : ∃ q, q = decide (y < x) := ⟨_, rfl⟩
  have HLX := Lib.hid (fun W => HLS.out y x W)
  rw [← hq] at HLX
  clear h hx hy hz hq
  go_enter Try.func110, Try.ntmps110
  go_wp2_with fail
  go_quiet ((go_at_call 89; exact Calls.quiet_of_same (HLX.out _)))
  have HO1 := Lib.hid (out_drewN (fun k => k = g) w nq)
  have HZ1 := Lib.hid (HZ.out.out (out_drewN (fun _ => False) w nq) id)
  obtain ⟨W1, hW1⟩ : ∃ W1, W1 = w.drewN nq := ⟨_, rfl⟩
  rw [← hW1] at HO1 HZ1
  rw [← hW1]
  clear hW1 x0 y0
  cases q with
  | true =>
    have c0 := HZ1.out.cell (i := 0) rfl
    have f0 := HZ1.out.frozen 0
    have FIN := Lib.hid (show OrdP w g a b (.returned (.tuple #[.int .i64 (b : Int), .int .i64 (a : Int)])) (W1.setCell ⟨g, 0, none⟩ (.int .i64 (wrap64 (z + 1)))) from
      ⟨b, a, rfl, .inr ⟨rfl, rfl⟩, ⟨_, HZ1.out.set 0 _⟩, HO1.out.setCell (.inl rfl) _⟩)
    go_wp2
    go_ret2
    exact FIN.out
  | false =>
    have FIN := Lib.hid (show OrdP w g a b (.returned (.tuple #[.int .i64 (a : Int), .int .i64 (b : Int)])) W1 from
      ⟨a, b, rfl, .inl ⟨rfl, rfl⟩, ⟨_, HZ1.out⟩, HO1.out⟩)
    go_wp2
    go_ret2
    exact FIN.out
def MedP (w : World) (g : Nat) (S : Nat → Prop) (e : Ending) (w' : World) : Prop :=
  ∃ m : Nat, e = .returned (.int .i64 (m : Int)) ∧ S m ∧ Ctr w' g ∧ Out (fun k => k = g) w w'
set_option maxRecDepth 100000 in
set_option maxHeartbeats 1000000 in
theorem median_any (base : Nat) (a0 : Addr) (n c a b d g : Nat) (L : List Nat) (w : World) (h : NumAt w base a0 n c L) (ha : a < n) (hb : b < n) (hd : d < n) (hg : Ctr w g) (hng : ¬ a0.block = g) :
    Calls Try.prog 105 #[.slice (some a0) n c, .int .i64 (a : Int), .int .i64 (b : Int), .int .i64 (d : Int), .pointer (some ⟨g, 0, none⟩)] w (MedP w g fun m => m = a ∨ m = b ∨ m = d) := by
  have HN := Lib.hid h
  have H1 := Lib.hid (order2_any base a0 n c a b g L w h ha hb hg)
  clear h hg
  go_enter Try.func105, Try.ntmps105
  go_wp2_with fail
  refine H1.out.mono ?_
  rintro e w1 ⟨a1, b1, rfl, hab, hc1, ho1⟩
  have HO1 := Lib.hid ho1
  have HN1 := Lib.hid (HN.out.out ho1 hng)
  have H2 := Lib.hid (order2_any base a0 n c b1 d g L w1 HN1.out (by omega) hd hc1)
  clear hc1 ho1 H1
  go_wp2_with fail
  refine H2.out.mono ?_
  rintro e w2 ⟨b2, d2, rfl, hbd, hc2, ho2⟩
  have HO2 := Lib.hid (HO1.out.trans ho2)
  have HN2 := Lib.hid (HN1.out.out ho2 hng)
  have H3 := Lib.hid (order2_any base a0 n c a1 b2 g L w2 HN2.out (by omega) (by omega) hc2)
  clear hc2 ho2 H2
  go_wp2_with fail
  refine H3.out.mono ?_
  rintro e w3 ⟨a3, b3, rfl, hab3, hc3, ho3⟩
  have FIN := Lib.hid (show MedP w g (fun m => m = a ∨ m = b ∨ m = d) (.returned (.int .i64 (b3 : Int))) w3 from ⟨b3, rfl, by omega, hc3, HO2.out.trans ho3⟩)
  clear hab hbd hab3 hc3 ho3 H3
  go_wp2
  go_ret
  exact FIN.out
set_option maxRecDepth 100000 in
set_option maxHeartbeats 1000000 in
theorem adjacent_any (base : Nat) (a0 : Addr) (n c a g : Nat) (L : List Nat) (w : World) (h : NumAt w base a0 n c L) (ha0 : 1 ≤ a) (ha : a + 1 < n) (hn : n ≤ 1000000000) (hg : Ctr w g) (hng : ¬ a0.block = g) :
    Calls Try.prog 104 #[.slice (some a0) n c, .int .i64 (a : Int), .pointer (some ⟨g, 0, none⟩)] w (MedP w g fun m => a ≤ m + 1 ∧ m ≤ a + 1) := by
  obtain ⟨a1, ha1⟩ : ∃ a1, a1 = a - 1 := ⟨_, rfl⟩
  obtain ⟨a2, ha2⟩ : ∃ a2, a2 = a + 1 := ⟨_, rfl⟩
  have H1 := Lib.hid (median_any base a0 n c a1 a a2 g L w h (by omega) (by omega) (by omega) hg hng)
  have d1 : (a : Int) - 1 = (a1 : Int) := by omega
  have d2 : (a : Int) + 1 = (a2 : Int) := by omega
  have d3 : a2 ≤ 1000000000 := by omega
  have d4 : a1 ≤ 1000000000 := by omega
  have HA := Lib.hid (And.intro ha1 ha2)
  clear h hg ha1 ha2
  go_enter Try.func104, Try.ntmps104
  go_wp2_with fail
  refine H1.out.mono ?_
  rintro e w1 ⟨m, rfl, hm, hc1, ho1⟩
  have FIN := Lib.hid (show MedP w g (fun m => a ≤ m + 1 ∧ m ≤ a + 1) (.returned (.int .i64 (m : Int))) w1 from ⟨m, rfl, by have := HA.out; omega, hc1, ho1⟩)
  clear hm hc1 ho1 H1
  go_wp2
  go_ret
  exact FIN.out
end Go.Proofs.Yteaibgnelnblnaa
end
section
namespace Go.Proofs.Yteaibgnelnblnaa
open Go.RowKit Me Tx Ed Mg Va

set_option maxRecDepth 100000 in
set_option maxHeartbeats 2000000 in
theorem reverse_any (base : Nat) (a0 : Addr) (n c a b : Nat) (L : List Nat) (w : World) (h : NumAt w base a0 n c L) (hab : a < b) (hb : b ≤ n) (hn : n ≤ 1000000000) :
    Calls Try.prog 87 #[.slice (some a0) n c, .int .i64 (a : Int), .int .i64 (b : Int)] w (NPost w base a0 n c a b L (fun _ => True) (.tuple #[])) := by
  obtain ⟨b1, hb1⟩ : ∃ b1, b1 = b - 1 := ⟨_, rfl⟩
  have d1 : (b : Int) - 1 = (b1 : Int) := by omega
  have d2 : b1 < b := by omega
  have d3 : b1 < n := by omega
  have H0 := Lib.hid h
  clear h hb1
  go_enter Try.func87, Try.ntmps87
  go_wp2
  go_loopw [6, 7] (fun iv jv wr => ∃ i j : Nat, iv = .int .i64 (i : Int) ∧ jv = .int .i64 (j : Int) ∧ a ≤ i ∧ j < b ∧ i ≤ j + 1 ∧ Hid (∃ L', Pm a b L L' ∧ NumAt wr base a0 n c L') ∧ Hid (NOut a0 w wr)) (fun iv jv _ => (intOf jv).toNat + 1 - (intOf iv).toNat)
  case atStart => exact ⟨a, b1, rfl, rfl, by omega, by omega, by omega, Lib.hid ⟨L, Pm.refl _ _ _, H0.out⟩, Lib.hid (Out.refl _ _)⟩
  case round =>
    clear H0
    obtain ⟨i, j, rfl, rfl, hai, hjb, hij, HC, HOU⟩ := hrel
    by_cases hlt : i < j
    · obtain ⟨L', hpm, hnum⟩ := HC.out
      have hlt2 : (i : Int) < (j : Int) := by omega
      have hin : i < n := by omega
      have hjn : j < n := by omega
      obtain ⟨x0, xf⟩ := hnum.get hin
      obtain ⟨y0, yf⟩ := hnum.get hjn
      obtain ⟨x, hx⟩ : ∃ x, x = nat_ L' i := ⟨_, rfl⟩
      obtain ⟨y, hy⟩ : ∃ y, y = nat_ L' j := ⟨_, rfl⟩
      rw [← hx] at x0
      rw [← hy] at y0
      obtain ⟨v', hv'⟩ := cell?_setCell_some (p := a0.add i) (x := .int .u32 (y : Int)) y0
      have hvf : (wr.setCell (a0.add i) (.int .u32 (y : Int))).frozen? (a0.add j) = false := by rw [World.frozen?_setCell]; exact yf
      obtain ⟨hs1, hs2⟩ := hnum.swap (i := i) (j := j) (x := x) (y := y) hin hjn hx hy
      have HNX := Lib.hid (show ∃ L'', Pm a b L L'' ∧ NumAt ((wr.setCell (a0.add i) (.int .u32 (y : Int))).setCell (a0.add j) (.int .u32 (x : Int))).drew base a0 n c L'' from
        ⟨swp L' i j, hpm.trans (Pm.swp hai (by omega) (by omega) hjb (by rw [hnum.len]; omega)), hs1⟩)
      have HOX := Lib.hid (HOU.out.trans hs2)
      clear hs1 hs2 hx hy hpm hnum HC
      go_wp2_with fail
      go_region
      go_wp2
      go_roundw
      case rel => exact ⟨i + 1, j - 1, by go_num, by go_num, by omega, by omega, by omega, HNX, HOX⟩
      case measure => simp [intOf]; omega
    · have hlt2 : ¬ (i : Int) < (j : Int) := by omega
      have FIN := Lib.hid (show NPost w base a0 n c a b L (fun _ => True) (.tuple #[]) (.returned (.tuple #[])) wr from by
        obtain ⟨L', h1, h3⟩ := HC.out
        exact ⟨rfl, L', h1, trivial, h3, HOU.out⟩)
      go_wp2
      go_end0
      exact FIN.out
end Go.Proofs.Yteaibgnelnblnaa
end
section
namespace Go.Proofs.Yteaibgnelnblnaa
open Go.RowKit Me Tx Ed Mg Va

set_option maxRecDepth 100000 in
set_option maxHeartbeats 3000000 in
theorem sift_any (base : Nat) (a0 : Addr) (n c lo hi f : Nat) (L : List Nat) (w : World) (h : NumAt w base a0 n c L) (hf : f + hi ≤ n) (hlo : lo ≤ hi) (hn : n ≤ 1000000000) (hH : Hp f (lo + 1) hi L) :
    Calls Try.prog 103 #[.slice (some a0) n c, .int .i64 (lo : Int), .int .i64 (hi : Int), .int .i64 (f : Int)] w (NPost w base a0 n c f (f + hi) L (Hp f lo hi) (.tuple #[])) := by
  have H0 := Lib.hid h
  have HHP := Lib.hid hH
  have HLS := Lib.hid less_any
  clear h hH
  go_enter Try.func103, Try.ntmps103
  go_wp2
  go_loopw [8] (fun rv wr => ∃ r : Nat, rv = .int .i64 (r : Int) ∧ lo ≤ r ∧ r ≤ hi ∧ Hid (∃ L', Pm f (f + hi) L L' ∧ Sift f lo hi r L' ∧ NumAt wr base a0 n c L') ∧ Hid (NOut a0 w wr)) (fun rv _ => hi - (intOf rv).toNat)
  case atStart => exact ⟨lo, rfl, Nat.le_refl _, hlo, Lib.hid ⟨L, Pm.refl _ _ _, Sift.start HHP.out, H0.out⟩, Lib.hid (Out.refl _ _)⟩
  case round =>
    clear H0 HHP
    obtain ⟨r, rfl, hlr, hrh, HC, HOU⟩ := hrel
    obtain ⟨L', hpm, hsi, hnum⟩ := HC.out
    have HPM := Lib.hid hpm
    have HSI := Lib.hid hsi
    have HN := Lib.hid hnum
    clear hpm hsi hnum HC
    obtain ⟨ch, hch⟩ : ∃ ch, ch = 2 * r + 1 := ⟨_, rfl⟩
    have HCH := Lib.hid hch
    have d1 : (2 : Int) * (r : Int) + 1 = (ch : Int) := by omega
    have d1b : (2 : Int) * (r : Int) ≤ 2000000000 := by omega
    by_cases hge : hi ≤ ch
    · have hge2 : (hi : Int) ≤ (ch : Int) := by omega
      have FIN := Lib.hid (show NPost w base a0 n c f (f + hi) L (Hp f lo hi) (.tuple #[]) (.returned (.tuple #[])) wr from
        ⟨rfl, L', HPM.out, HSI.out.leaf (by omega), HN.out, HOU.out⟩)
      clear hch
      go_wp2
      go_end0
      exact FIN.out
    · have hge2 : ¬ (hi : Int) ≤ (ch : Int) := by omega
      have hchn : ch < hi := by omega
      clear hge hch
      obtain ⟨fr, hfr⟩ : ∃ fr, fr = f + r := ⟨_, rfl⟩
      have HFR := Lib.hid hfr
      have d2 : (f : Int) + (r : Int) = (fr : Int) := by omega
      obtain ⟨fc, hfc⟩ : ∃ fc, fc = f + ch := ⟨_, rfl⟩
      have HFC := Lib.hid hfc
      have d3 : (f : Int) + (ch : Int) = (fc : Int) := by omega
      obtain ⟨c1, hc1⟩ : ∃ c1, c1 = ch + 1 := ⟨_, rfl⟩
      have HC1 := Lib.hid hc1
      have d4 : (ch : Int) + 1 = (c1 : Int) := by omega
      obtain ⟨fd, hfd⟩ : ∃ fd, fd = fc + 1 := ⟨_, rfl⟩
      have HFD := Lib.hid hfd
      have d5 : (fc : Int) + 1 = (fd : Int) := by omega
      have d6 : (f : Int) + (c1 : Int) = (fd : Int) := by omega
      have b1 : fr < n := by omega
      have b2 : fc < n := by omega
      have b3 : fd ≤ n := by omega
      have b4 : c1 ≤ hi := by omega
      have b5 : (fr : Int) < (n : Int) := by omega
      have b6 : (fc : Int) < (n : Int) := by omega
      clear hfr hfc hc1 hfd
      by_cases hlt : c1 < hi
      · have hlt2 : (c1 : Int) < (hi : Int) := by omega
        have b7 : fd < n := by have := HFD.out; have := HFC.out; have := HC1.out; omega
        have b8 : (fd : Int) < (n : Int) := by omega
        obtain ⟨u0, uf⟩ := HN.out.get (i := fc) b2
        obtain ⟨v0, vf⟩ := HN.out.get (i := fd) b7
        obtain ⟨u, hu⟩ : ∃ x, x = nat_ L' (fc) := ⟨_, rfl⟩
        obtain ⟨v, hv⟩ : ∃ x, x = nat_ L' (fd) := ⟨_, rfl⟩
        rw [← hu] at u0
        rw [← hv] at v0
        obtain ⟨q1, hq1⟩ : ∃ q, q = decide (u < v) := ⟨_, rfl⟩
        have HLX := Lib.hid (fun W => HLS.out u v W)
        rw [← hq1] at HLX
        have HUV := Lib.hid (And.intro hu (And.intro hv hq1))
        clear hu hv hq1
        go_wp2_with fail
        go_quiet ((go_at_call 89; exact Calls.quiet_of_same (HLX.out _)))
        have HN2 := Lib.hid (HN.out.drewN nq)
        have HO2 := Lib.hid (HOU.out.trans (out_drewN _ wr nq))
        obtain ⟨W2, hW2⟩ : ∃ X : World, X = wr.drewN nq := ⟨_, rfl⟩
        rw [← hW2] at HN2 HO2
        rw [← hW2]
        clear hW2
        clear u0 uf v0 vf
        cases q1 with
        | true =>
          have HMX := Lib.hid (show ∀ k, (k = 2 * r + 1 ∨ k = 2 * r + 2) → k < hi → nat_ L' (f + k) ≤ nat_ L' (f + c1) from fun k hk hkh => by
              have h1 := HUV.out.1
              have h2 := HUV.out.2.1
              have h3 := of_decide_eq_true HUV.out.2.2.symm
              rw [HFC.out] at h1
              rw [show fd = f + c1 by have := HFD.out; have := HFC.out; have := HC1.out; omega] at h2
              by_cases e : k = ch
              · subst e; omega
              · have e : k = c1 := by have := HCH.out; have := HC1.out; omega
                subst e; exact Nat.le_refl _)
          obtain ⟨x0, xf⟩ := HN2.out.get (i := fr) b1
          obtain ⟨y0, yf⟩ := HN2.out.get (i := fd) b7
          obtain ⟨x, hx⟩ : ∃ x, x = nat_ L' (fr) := ⟨_, rfl⟩
          obtain ⟨y, hy⟩ : ∃ x, x = nat_ L' (fd) := ⟨_, rfl⟩
          rw [← hx] at x0
          rw [← hy] at y0
          obtain ⟨q2, hq2⟩ : ∃ q, q = decide (x < y) := ⟨_, rfl⟩
          have HLX := Lib.hid (fun W => HLS.out x y W)
          rw [← hq2] at HLX
          have HXY := Lib.hid (And.intro hx (And.intro hy hq2))
          clear hx hy hq2
          go_wp2_with fail
          go_quiet ((go_at_call 89; exact Calls.quiet_of_same (HLX.out _)))
          have HN3 := Lib.hid (HN2.out.drewN nq)
          have HO3 := Lib.hid (HO2.out.trans (out_drewN _ W2 nq))
          obtain ⟨W3, hW2⟩ : ∃ X : World, X = W2.drewN nq := ⟨_, rfl⟩
          rw [← hW2] at HN3 HO3
          rw [← hW2]
          clear hW2
          clear x0 xf y0 yf
          cases q2 with
          | false =>
            have FIN := Lib.hid (show NPost w base a0 n c f (f + hi) L (Hp f lo hi) (.tuple #[]) (.returned (.tuple #[])) W3 from
              ⟨rfl, L', HPM.out, HSI.out.stop (c := c1) HMX.out (by
                have h1 := HXY.out.1
                have h2 := HXY.out.2.1
                have h3 := of_decide_eq_false HXY.out.2.2.symm
                rw [HFR.out] at h1
                rw [show fd = f + c1 by have := HFD.out; have := HFC.out; have := HC1.out; omega] at h2
                omega), HN3.out, HO3.out⟩)
            go_wp2
            go_end0
            exact FIN.out
          | true =>
            have hlt3 : nat_ L' (f + r) < nat_ L' (f + c1) := by
              have h1 := HXY.out.1
              have h2 := HXY.out.2.1
              have h3 := of_decide_eq_true HXY.out.2.2.symm
              rw [HFR.out] at h1
              rw [show fd = f + c1 by have := HFD.out; have := HFC.out; have := HC1.out; omega] at h2
              omega
            have HLT := Lib.hid hlt3
            clear hlt3
            obtain ⟨x0, xf⟩ := HN3.out.get (i := fr) b1
            obtain ⟨y0, yf⟩ := HN3.out.get (i := fd) b7
            have hx := HXY.out.1
            have hy := HXY.out.2.1
            rw [← hx] at x0
            rw [← hy] at y0
            obtain ⟨v', hv'⟩ := cell?_setCell_some (p := a0.add (fr)) (x := .int .u32 (y : Int)) y0
            have hvf : (W3.setCell (a0.add (fr)) (.int .u32 (y : Int))).frozen? (a0.add (fd)) = false := by rw [World.frozen?_setCell]; exact yf
            obtain ⟨hs1, hs2⟩ := HN3.out.swap (i := fr) (j := fd) (x := x) (y := y) b1 b7 hx hy
            have HNS := Lib.hid hs1
            have HOS := Lib.hid (HO3.out.trans hs2)
            have HNX := Lib.hid (show ∃ L'', Pm f (f + hi) L L'' ∧ Sift f lo hi c1 L'' ∧ NumAt ((W3.setCell (a0.add fr) (.int .u32 (y : Int))).setCell (a0.add fd) (.int .u32 (x : Int))).drew base a0 n c L'' from
              ⟨swp L' fr fd, HPM.out.trans (Pm.swp (by have := HFR.out; omega) (by have := HFR.out; have := HCH.out; omega) (by have := HFD.out; have := HFC.out; omega) (by have := HFD.out; have := HFC.out; have := HC1.out; omega) (by rw [HN3.out.len]; exact hf)), by
                have h1 := HSI.out.step (c := c1) hlr (by have := HCH.out; have := HC1.out; omega) (by have := HC1.out; omega) (by rw [HN3.out.len]; exact hf) HMX.out HLT.out
                rw [← HFR.out, ← (show fd = f + c1 by have := HFD.out; have := HFC.out; have := HC1.out; omega)] at h1
                exact h1, HNS.out⟩)
            have hmm : r < c1 := by have := HCH.out; have := HC1.out; omega
            clear hs1 hs2 hx hy HNS
            go_wp2_with fail
            go_region
            go_wp2
            go_roundw
            case rel => exact ⟨c1, rfl, by omega, by omega, HNX, HOS⟩
            case measure => simp [intOf]; omega
        | false =>
          have HMX := Lib.hid (show ∀ k, (k = 2 * r + 1 ∨ k = 2 * r + 2) → k < hi → nat_ L' (f + k) ≤ nat_ L' (f + ch) from fun k hk hkh => by
              have h1 := HUV.out.1
              have h2 := HUV.out.2.1
              have h3 := of_decide_eq_false HUV.out.2.2.symm
              rw [HFC.out] at h1
              rw [show fd = f + c1 by have := HFD.out; have := HFC.out; have := HC1.out; omega] at h2
              by_cases e : k = ch
              · subst e; exact Nat.le_refl _
              · have e : k = c1 := by have := HCH.out; have := HC1.out; omega
                subst e; omega)
          obtain ⟨x0, xf⟩ := HN2.out.get (i := fr) b1
          obtain ⟨y0, yf⟩ := HN2.out.get (i := fc) b2
          obtain ⟨x, hx⟩ : ∃ x, x = nat_ L' (fr) := ⟨_, rfl⟩
          obtain ⟨y, hy⟩ : ∃ x, x = nat_ L' (fc) := ⟨_, rfl⟩
          rw [← hx] at x0
          rw [← hy] at y0
          obtain ⟨q2, hq2⟩ : ∃ q, q = decide (x < y) := ⟨_, rfl⟩
          have HLX := Lib.hid (fun W => HLS.out x y W)
          rw [← hq2] at HLX
          have HXY := Lib.hid (And.intro hx (And.intro hy hq2))
          clear hx hy hq2
          go_wp2_with fail
          go_quiet ((go_at_call 89; exact Calls.quiet_of_same (HLX.out _)))
          have HN3 := Lib.hid (HN2.out.drewN nq)
          have HO3 := Lib.hid (HO2.out.trans (out_drewN _ W2 nq))
          obtain ⟨W3, hW2⟩ : ∃ X : World, X = W2.drewN nq := ⟨_, rfl⟩
          rw [← hW2] at HN3 HO3
          rw [← hW2]
          clear hW2
          clear x0 xf y0 yf
          cases q2 with
          | false =>
            have FIN := Lib.hid (show NPost w base a0 n c f (f + hi) L (Hp f lo hi) (.tuple #[]) (.returned (.tuple #[])) W3 from
              ⟨rfl, L', HPM.out, HSI.out.stop (c := ch) HMX.out (by
                have h1 := HXY.out.1
                have h2 := HXY.out.2.1
                have h3 := of_decide_eq_false HXY.out.2.2.symm
                rw [HFR.out] at h1
                rw [HFC.out] at h2
                omega), HN3.out, HO3.out⟩)
            go_wp2
            go_end0
            exact FIN.out
          | true =>
            have hlt3 : nat_ L' (f + r) < nat_ L' (f + ch) := by
              have h1 := HXY.out.1
              have h2 := HXY.out.2.1
              have h3 := of_decide_eq_true HXY.out.2.2.symm
              rw [HFR.out] at h1
              rw [HFC.out] at h2
              omega
            have HLT := Lib.hid hlt3
            clear hlt3
            obtain ⟨x0, xf⟩ := HN3.out.get (i := fr) b1
            obtain ⟨y0, yf⟩ := HN3.out.get (i := fc) b2
            have hx := HXY.out.1
            have hy := HXY.out.2.1
            rw [← hx] at x0
            rw [← hy] at y0
            obtain ⟨v', hv'⟩ := cell?_setCell_some (p := a0.add (fr)) (x := .int .u32 (y : Int)) y0
            have hvf : (W3.setCell (a0.add (fr)) (.int .u32 (y : Int))).frozen? (a0.add (fc)) = false := by rw [World.frozen?_setCell]; exact yf
            obtain ⟨hs1, hs2⟩ := HN3.out.swap (i := fr) (j := fc) (x := x) (y := y) b1 b2 hx hy
            have HNS := Lib.hid hs1
            have HOS := Lib.hid (HO3.out.trans hs2)
            have HNX := Lib.hid (show ∃ L'', Pm f (f + hi) L L'' ∧ Sift f lo hi ch L'' ∧ NumAt ((W3.setCell (a0.add fr) (.int .u32 (y : Int))).setCell (a0.add fc) (.int .u32 (x : Int))).drew base a0 n c L'' from
              ⟨swp L' fr fc, HPM.out.trans (Pm.swp (by have := HFR.out; omega) (by have := HFR.out; have := HCH.out; omega) (by have := HFD.out; have := HFC.out; omega) (by have := HFD.out; have := HFC.out; have := HC1.out; omega) (by rw [HN3.out.len]; exact hf)), by
                have h1 := HSI.out.step (c := ch) hlr (by have := HCH.out; have := HC1.out; omega) (by have := HC1.out; omega) (by rw [HN3.out.len]; exact hf) HMX.out HLT.out
                rw [← HFR.out, ← HFC.out] at h1
                exact h1, HNS.out⟩)
            have hmm : r < ch := by have := HCH.out; have := HC1.out; omega
            clear hs1 hs2 hx hy HNS
            go_wp2_with fail
            go_region
            go_wp2
            go_roundw
            case rel => exact ⟨ch, rfl, by omega, by omega, HNX, HOS⟩
            case measure => simp [intOf]; omega
      · have hlt2 : decide ((c1 : Int) < (hi : Int)) = false := by simp; omega
        go_wp2_with fail
        go_quiet (fail)
        have HN2 := Lib.hid (HN.out.drewN nq)
        have HO2 := Lib.hid (HOU.out.trans (out_drewN _ wr nq))
        obtain ⟨W2, hW2⟩ : ∃ X : World, X = wr.drewN nq := ⟨_, rfl⟩
        rw [← hW2] at HN2 HO2
        rw [← hW2]
        clear hW2
        have HMX := Lib.hid (show ∀ k, (k = 2 * r + 1 ∨ k = 2 * r + 2) → k < hi → nat_ L' (f + k) ≤ nat_ L' (f + ch) from fun k hk hkh => by
            by_cases e : k = ch
            · subst e; exact Nat.le_refl _
            · have e : k = c1 := by have := HCH.out; have := HC1.out; omega
              omega)
        obtain ⟨x0, xf⟩ := HN2.out.get (i := fr) b1
        obtain ⟨y0, yf⟩ := HN2.out.get (i := fc) b2
        obtain ⟨x, hx⟩ : ∃ x, x = nat_ L' (fr) := ⟨_, rfl⟩
        obtain ⟨y, hy⟩ : ∃ x, x = nat_ L' (fc) := ⟨_, rfl⟩
        rw [← hx] at x0
        rw [← hy] at y0
        obtain ⟨q2, hq2⟩ : ∃ q, q = decide (x < y) := ⟨_, rfl⟩
        have HLX := Lib.hid (fun W => HLS.out x y W)
        rw [← hq2] at HLX
        have HXY := Lib.hid (And.intro hx (And.intro hy hq2))
        clear hx hy hq2
        go_wp2_with fail
        go_quiet ((go_at_call 89; exact Calls.quiet_of_same (HLX.out _)))
        have HN3 := Lib.hid (HN2.out.drewN nq)
        have HO3 := Lib.hid (HO2.out.trans (out_drewN _ W2 nq))
        obtain ⟨W3, hW2⟩ : ∃ X : World, X = W2.drewN nq := ⟨_, rfl⟩
        rw [← hW2] at HN3 HO3
        rw [← hW2]
        clear hW2
        clear x0 xf y0 yf
        cases q2 with
        | false =>
          have FIN := Lib.hid (show NPost w base a0 n c f (f + hi) L (Hp f lo hi) (.tuple #[]) (.returned (.tuple #[])) W3 from
            ⟨rfl, L', HPM.out, HSI.out.stop (c := ch) HMX.out (by
              have h1 := HXY.out.1
              have h2 := HXY.out.2.1
              have h3 := of_decide_eq_false HXY.out.2.2.symm
              rw [HFR.out] at h1
              rw [HFC.out] at h2
              omega), HN3.out, HO3.out⟩)
          go_wp2
          go_end0
          exact FIN.out
        | true =>
          have hlt3 : nat_ L' (f + r) < nat_ L' (f + ch) := by
            have h1 := HXY.out.1
            have h2 := HXY.out.2.1
            have h3 := of_decide_eq_true HXY.out.2.2.symm
            rw [HFR.out] at h1
            rw [HFC.out] at h2
            omega
          have HLT := Lib.hid hlt3
          clear hlt3
          obtain ⟨x0, xf⟩ := HN3.out.get (i := fr) b1
          obtain ⟨y0, yf⟩ := HN3.out.get (i := fc) b2
          have hx := HXY.out.1
          have hy := HXY.out.2.1
          rw [← hx] at x0
          rw [← hy] at y0
          obtain ⟨v', hv'⟩ := cell?_setCell_some (p := a0.add (fr)) (x := .int .u32 (y : Int)) y0
          have hvf : (W3.setCell (a0.add (fr)) (.int .u32 (y : Int))).frozen? (a0.add (fc)) = false := by rw [World.frozen?_setCell]; exact yf
          obtain ⟨hs1, hs2⟩ := HN3.out.swap (i := fr) (j := fc) (x := x) (y := y) b1 b2 hx hy
          have HNS := Lib.hid hs1
          have HOS := Lib.hid (HO3.out.trans hs2)
          have HNX := Lib.hid (show ∃ L'', Pm f (f + hi) L L'' ∧ Sift f lo hi ch L'' ∧ NumAt ((W3.setCell (a0.add fr) (.int .u32 (y : Int))).setCell (a0.add fc) (.int .u32 (x : Int))).drew base a0 n c L'' from
            ⟨swp L' fr fc, HPM.out.trans (Pm.swp (by have := HFR.out; omega) (by have := HFR.out; have := HCH.out; omega) (by have := HFD.out; have := HFC.out; omega) (by have := HFD.out; have := HFC.out; have := HC1.out; omega) (by rw [HN3.out.len]; exact hf)), by
              have h1 := HSI.out.step (c := ch) hlr (by have := HCH.out; have := HC1.out; omega) (by have := HC1.out; omega) (by rw [HN3.out.len]; exact hf) HMX.out HLT.out
              rw [← HFR.out, ← HFC.out] at h1
              exact h1, HNS.out⟩)
          have hmm : r < ch := by have := HCH.out; have := HC1.out; omega
          clear hs1 hs2 hx hy HNS
          go_wp2_with fail
          go_region
          go_wp2
          go_roundw
          case rel => exact ⟨ch, rfl, by omega, by omega, HNX, HOS⟩
          case measure => simp [intOf]; omega
end Go.Proofs.Yteaibgnelnblnaa
end
section
namespace Go.Proofs.Yteaibgnelnblnaa
open Go.RowKit Me Tx Ed Mg Va

set_option maxRecDepth 100000 in
set_option maxHeartbeats 3000000 in
theorem heap_any (base : Nat) (a0 : Addr) (n c f b : Nat) (L : List Nat) (w : World) (h : NumAt w base a0 n c L) (hfb : f ≤ b) (hb : b ≤ n) (hn : n ≤ 1000000000) :
    Calls Try.prog 84 #[.slice (some a0) n c, .int .i64 (f : Int), .int .i64 (b : Int)] w (NPost w base a0 n c f b L (So f b) (.tuple #[])) := by
  obtain ⟨hi, hhi⟩ : ∃ hi, hi = b - f := ⟨_, rfl⟩
  have d1 : (b : Int) - (f : Int) = (hi : Int) := by omega
  obtain ⟨m, hm⟩ : ∃ m, m = (hi - 1) / 2 := ⟨_, rfl⟩
  have d2 : Int.tdiv ((hi : Int) - 1) 2 = (m : Int) := by
    rcases Nat.eq_zero_or_pos hi with e | e
    · subst e; rw [hm]; rfl
    · rw [show (hi : Int) - 1 = ((hi - 1 : Nat) : Int) by omega, hm]; rfl
  have d3 : hi ≤ 1000000000 := by omega
  have HB := Lib.hid (show f + hi = b by omega)
  have HM := Lib.hid (show m ≤ hi ∧ ∀ i, m + 1 ≤ i → hi ≤ 2 * i + 1 from ⟨by omega, fun i hi2 => by omega⟩)
  have H0 := Lib.hid h
  have d4 : m ≤ 1000000000 := by omega
  clear h hhi hm
  go_enter Try.func84, Try.ntmps84
  go_wp2
  go_loopw [9] (fun iv wr => ∃ (z : Int) (t : Nat), iv = .int .i64 z ∧ z = (t : Int) - 1 ∧ t ≤ hi + 1 ∧ Hid (∃ L', Pm f b L L' ∧ Hp f t hi L' ∧ NumAt wr base a0 n c L') ∧ Hid (NOut a0 w wr)) (fun iv _ => (intOf iv + 1).toNat)
  case atStart => exact ⟨(m : Int), m + 1, rfl, by omega, by have := HM.out.1; omega, Lib.hid ⟨L, Pm.refl _ _ _, fun i ch h1 h2 h3 => by have := HM.out.2 i h1; omega, H0.out⟩, Lib.hid (Out.refl _ _)⟩
  case round =>
    clear H0 HM
    obtain ⟨z, t, rfl, hz, ht, HC, HOU⟩ := hrel
    by_cases ht0 : t = 0
    · have hz2 : z = -1 := by omega
      subst hz2 ht0
      clear hz
      obtain ⟨L0, hpm0, hhp0, hnum0⟩ := HC.out
      have HC0 := Lib.hid (show ∃ L', Pm f b L L' ∧ Hp f 0 hi L' ∧ Tl_ f (f + hi) b L' ∧ NumAt wr base a0 n c L' from ⟨L0, hpm0, hhp0, by rw [HB.out]; exact Tl_.last, hnum0⟩)
      clear HC hpm0 hhp0 hnum0
      go_wp2
      go_loopw [10] (fun iv wr => ∃ (z : Int) (t : Nat), iv = .int .i64 z ∧ z = (t : Int) - 1 ∧ t ≤ hi ∧ Hid (∃ L', Pm f b L L' ∧ Hp f 0 t L' ∧ Tl_ f (f + t) b L' ∧ NumAt wr base a0 n c L') ∧ Hid (NOut a0 w wr)) (fun iv _ => (intOf iv + 1).toNat)
      case atStart => exact ⟨(hi : Int) - 1, hi, by go_num, rfl, Nat.le_refl _, HC0, HOU⟩
      case round =>
        clear HC0 HOU
        obtain ⟨z, t, rfl, hz, ht, HC, HOU⟩ := hrel
        by_cases ht0 : t = 0
        · have hz2 : z = -1 := by omega
          subst hz2 ht0
          clear hz
          have FIN := Lib.hid (show NPost w base a0 n c f b L (So f b) (.tuple #[]) (.returned (.tuple #[])) wr from by
            obtain ⟨L', h1, -, h2, h3⟩ := HC.out
            exact ⟨rfl, L', h1, h2.so, h3, HOU.out⟩)
          go_wp2
          go_end0
          exact FIN.out
        · obtain ⟨i, rfl⟩ : ∃ i, t = i + 1 := ⟨t - 1, by omega⟩
          have hz2 : z = (i : Int) := by omega
          subst hz2
          clear hz
          obtain ⟨L', hpm, hhp, htl, hnum⟩ := HC.out
          obtain ⟨fi, hfi⟩ : ∃ fi, fi = f + i := ⟨_, rfl⟩
          have d5 : (f : Int) + (i : Int) = (fi : Int) := by omega
          have hfb1 : f + hi = b := HB.out
          have hfn : f < n := by omega
          have hin : fi < n := by omega
          have hfn2 : (f : Int) < (n : Int) := by omega
          have hin2 : (fi : Int) < (n : Int) := by omega
          have hi0 : i ≤ 1000000000 := by omega
          obtain ⟨x0, xf⟩ := hnum.get hfn
          obtain ⟨y0, yf⟩ := hnum.get hin
          obtain ⟨x, hx⟩ : ∃ x, x = nat_ L' f := ⟨_, rfl⟩
          obtain ⟨y, hy⟩ : ∃ y, y = nat_ L' fi := ⟨_, rfl⟩
          rw [← hx] at x0
          rw [← hy] at y0
          obtain ⟨v', hv'⟩ := cell?_setCell_some (p := a0.add f) (x := .int .u32 (y : Int)) y0
          have hvf : (wr.setCell (a0.add f) (.int .u32 (y : Int))).frozen? (a0.add fi) = false := by rw [World.frozen?_setCell]; exact yf
          obtain ⟨hs1, hs2⟩ := hnum.swap (i := f) (j := fi) (x := x) (y := y) hfn hin hx hy
          have hpw := heap_swap hhp (by rw [show f + i + 1 = f + (i + 1) by omega]; exact htl) (by rw [hnum.len]; exact hb) (by omega)
          rw [← hfi] at hpw
          have HPW := Lib.hid hpw
          have HPM := Lib.hid (hpm.trans (Pm.swp (i := f) (j := fi) (by omega) (by omega) (by omega) (by omega) (by rw [hnum.len]; exact hb)))
          have HSI := Lib.hid (sift_any base a0 n c 0 i f (swp L' f fi) _ hs1 (by omega) (Nat.zero_le _) hn hpw.1)
          have HO2 := Lib.hid (HOU.out.trans hs2)
          have HFI := Lib.hid hfi
          clear hs1 hs2 hx hy hpm hhp htl hnum HC hpw hfi
          go_wp2_with fail
          go_region
          go_wp2_with fail
          refine HSI.out.mono ?_
          rintro e w2 ⟨rfl, L2, hpm2, hhp2, hnum2, ho2⟩
          have HNX := Lib.hid (show ∃ L', Pm f b L L' ∧ Hp f 0 i L' ∧ Tl_ f (f + i) b L' ∧ NumAt w2 base a0 n c L' from
            ⟨L2, HPM.out.trans (hpm2.more (Nat.le_refl _) (by omega)), hhp2, by rw [show f + i = fi from HFI.out.symm] at hpm2 ⊢; exact HPW.out.2.pm hpm2 (by have := HFI.out; omega), hnum2⟩)
          have HOX := Lib.hid (HO2.out.trans ho2)
          clear hpm2 hhp2 hnum2 ho2 HSI x0 xf y0 yf hv' hvf
          go_wp2
          go_roundw
          case rel => exact ⟨(i : Int) - 1, i, by go_num, rfl, by omega, HNX, HOX⟩
          case measure => simp [intOf]
    · obtain ⟨i, rfl⟩ : ∃ i, t = i + 1 := ⟨t - 1, by omega⟩
      have hz2 : z = (i : Int) := by omega
      subst hz2
      clear hz
      obtain ⟨L', hpm, hhp, hnum⟩ := HC.out
      have hfb1 : f + hi = b := HB.out
      have hi0 : i ≤ 1000000000 := by omega
      have HPM := Lib.hid hpm
      have HSI := Lib.hid (sift_any base a0 n c i hi f L' wr hnum (by omega) (by omega) hn hhp)
      clear hpm hhp hnum HC
      go_wp2_with fail
      refine HSI.out.mono ?_
      rintro e w2 ⟨rfl, L2, hpm2, hhp2, hnum2, ho2⟩
      have HNX := Lib.hid (show ∃ L', Pm f b L L' ∧ Hp f i hi L' ∧ NumAt w2 base a0 n c L' from ⟨L2, HPM.out.trans (by rw [← HB.out]; exact hpm2), hhp2, hnum2⟩)
      have HOX := Lib.hid (HOU.out.trans ho2)
      clear hpm2 hhp2 hnum2 ho2 HSI
      go_wp2
      go_roundw
      case rel => exact ⟨(i : Int) - 1, i, by go_num, rfl, by omega, HNX, HOX⟩
      case measure => simp [intOf]
end Go.Proofs.Yteaibgnelnblnaa
end
section
namespace Go.Proofs.Yteaibgnelnblnaa
open Go.RowKit Me Tx Ed Mg Va

/-- A part that is being parted by its first element. -/
structure PI (a b i j : Nat) (M : List Nat) : Prop where
  ai : a + 1 ≤ i
  ij : i ≤ j + 1
  jb : j + 1 ≤ b
  low : ∀ k, a + 1 ≤ k → k < i → nat_ M k ≤ nat_ M a
  up : ∀ k, j < k → k < b → nat_ M a ≤ nat_ M k
variable {a b i j : Nat} {M : List Nat}
theorem PI.start (h : a < b) : PI a b (a + 1) (b - 1) M := ⟨Nat.le_refl _, by omega, by omega, fun k h1 h2 => by omega, fun k h1 h2 => by omega⟩
theorem PI.stepI (h : PI a b i j M) (hij : i ≤ j) (hlt : nat_ M i ≤ nat_ M a) : PI a b (i + 1) j M :=
  ⟨by have := h.ai; omega, by omega, h.jb, fun k h1 h2 => by
    by_cases e : k = i
    · subst e; exact hlt
    · exact h.low k h1 (by omega), h.up⟩
theorem PI.stepJ (h : PI a b i j M) (hij : i ≤ j) (hlt : nat_ M a ≤ nat_ M j) : PI a b i (j - 1) M := by
  have := h.ai
  have := h.jb
  exact ⟨h.ai, by omega, by omega, h.low, fun k h1 h2 => by
    by_cases e : k = j
    · subst e; exact hlt
    · exact h.up k (by omega) h2⟩
theorem PI.swap (h : PI a b i j M) (hij : i < j) (hl : b ≤ M.length) (hi : nat_ M a ≤ nat_ M i) (hj : nat_ M j ≤ nat_ M a) : PI a b (i + 1) (j - 1) (swp M i j) := by
  have h1 := h.ai
  have h2 := h.jb
  have l1 : i < M.length := by omega
  have l2 : j < M.length := by omega
  refine ⟨by omega, by omega, by omega, fun k k1 k2 => ?_, fun k k1 k2 => ?_⟩
  · rw [nat_swp l1 l2, nat_swp l1 l2, if_neg (show ¬ a = j by omega), if_neg (show ¬ a = i by omega), if_neg (show ¬ k = j by omega)]
    by_cases e : k = i
    · rw [if_pos e]; exact hj
    · rw [if_neg e]; exact h.low k k1 (by omega)
  · rw [nat_swp l1 l2, nat_swp l1 l2, if_neg (show ¬ a = j by omega), if_neg (show ¬ a = i by omega)]
    by_cases e : k = j
    · rw [if_pos e]; exact hi
    · rw [if_neg e, if_neg (by omega)]; exact h.up k (by omega) k2
theorem PI.done (h : PI a b i j M) (hij : j < i) (hl : b ≤ M.length) : Part a b j (swp M j a) := by
  have h1 := h.ai
  have h2 := h.ij
  have h3 := h.jb
  have l1 : j < M.length := by omega
  have l2 : a < M.length := by omega
  refine ⟨by omega, by omega, fun k k1 k2 => ?_, fun k k1 k2 => ?_⟩
  · rw [nat_swp l1 l2, nat_swp l1 l2]
    rw [if_neg (show ¬ k = j by omega), if_neg (show ¬ j = a by omega), if_pos (rfl : j = j)]
    by_cases e : k = a
    · rw [if_pos e]; exact h.low j (by omega) (by omega)
    · rw [if_neg e]; exact h.low k (by omega) (by omega)
  · rw [nat_swp l1 l2, nat_swp l1 l2]
    rw [if_neg (show ¬ k = a by omega), if_neg (show ¬ k = j by omega)]
    by_cases e : j = a
    · rw [if_pos e, e]; exact h.up k k1 k2
    · rw [if_neg e, if_pos rfl]; exact h.up k k1 k2
def PtPost (w : World) (base : Nat) (a0 : Addr) (n c a b : Nat) (L : List Nat) (e : Ending) (w' : World) : Prop :=
  ∃ (mid : Nat) (q : Bool) (M : List Nat), e = .returned (.tuple #[.int .i64 (mid : Int), .bool q]) ∧ Pm a b L M ∧ Part a b mid M ∧ NumAt w' base a0 n c M ∧ NOut a0 w w'
set_option maxRecDepth 100000 in
set_option maxHeartbeats 6000000 in
theorem partition_any (base : Nat) (a0 : Addr) (n c a b p : Nat) (L : List Nat) (w : World) (h : NumAt w base a0 n c L) (hap : a ≤ p) (hpb : p < b) (hb : b ≤ n) (hn : n ≤ 1000000000) :
    Calls Try.prog 91 #[.slice (some a0) n c, .int .i64 (a : Int), .int .i64 (b : Int), .int .i64 (p : Int)] w (PtPost w base a0 n c a b L) := by
  have H0 := Lib.hid h
  have HLS := Lib.hid less_any
  obtain ⟨b1, hb1⟩ : ∃ b1, b1 = b - 1 := ⟨_, rfl⟩
  have HB1 := Lib.hid hb1
  have d1 : (b : Int) - 1 = (b1 : Int) := by omega
  have b2 : b1 < b := by omega
  have i1 : (a : Int) < (n : Int) := by omega
  have i2 : (p : Int) < (n : Int) := by omega
  have HOR := Lib.hid (Out.refl (fun k => k = a0.block) w)
  obtain ⟨x0, xf⟩ := H0.out.get (i := a) (by omega)
  obtain ⟨y0, yf⟩ := H0.out.get (i := p) (by omega)
  obtain ⟨x, hx⟩ : ∃ x, x = nat_ L (a) := ⟨_, rfl⟩
  obtain ⟨y, hy⟩ : ∃ x, x = nat_ L (p) := ⟨_, rfl⟩
  rw [← hx] at x0
  rw [← hy] at y0
  obtain ⟨v', hv'⟩ := cell?_setCell_some (p := a0.add (a)) (x := .int .u32 (y : Int)) y0
  have hvf : (w.setCell (a0.add (a)) (.int .u32 (y : Int))).frozen? (a0.add (p)) = false := by rw [World.frozen?_setCell]; exact yf
  obtain ⟨hs1, hs2⟩ := H0.out.swap (i := a) (j := p) (x := x) (y := y) (by omega) (by omega) hx hy
  have HNS := Lib.hid hs1
  have HOS := Lib.hid (HOR.out.trans hs2)
  have HPM := Lib.hid (Pm.swp (L := L) (a := a) (b := b) (i := a) (j := p) (by omega) (by omega) (by omega) hpb (by rw [h.len]; exact hb))
  clear hs1 hs2 hx hy h hb1
  go_enter Try.func91, Try.ntmps91
  go_wp2_with fail
  go_region
  clear x0 xf y0 yf hv' hvf
  obtain ⟨M, hM⟩ : ∃ M, M = swp L a p := ⟨_, rfl⟩
  rw [← hM] at HNS HPM
  clear hM
  have HML := Lib.hid (show b ≤ M.length by rw [HNS.out.len]; exact hb)
  have HPI := Lib.hid (show PI a b (a + 1) b1 M from by rw [HB1.out]; exact PI.start (by omega))
  go_wp2
  obtain ⟨ii, hii⟩ : ∃ ii, ii = a + 1 := ⟨_, rfl⟩
  have hii2 : (a : Int) + 1 = (ii : Int) := by omega
  rw [← hii] at HPI
  have HII := HPI
  clear HPI hii
  go_loopw [10] (fun iv wr => ∃ i : Nat, iv = .int .i64 (i : Int) ∧ ii ≤ i ∧ a + 1 ≤ i ∧ i ≤ b1 + 1 ∧ Hid (PI a b i b1 M) ∧ Hid (NumAt wr base a0 n c M) ∧ Hid (NOut a0 w wr)) (fun iv _ => b1 + 1 - (intOf iv).toNat)
  case atStart => exact ⟨ii, by first | rfl | (rw [hii2]), Nat.le_refl _, HII.out.ai, HII.out.ij, HII, HNS, HOS⟩
  case round =>
    clear HII HNS HOS
    obtain ⟨i, rfl, hiii, hai, hij, HPI, HN, HO⟩ := hrel
    go_wp2_with fail
    go_cut [43] (fun s wx => ∃ q : Bool, s = .bool q ∧ Hid ((q = true → i ≤ b1 ∧ nat_ M i < nat_ M a) ∧ (q = false → i ≤ b1 → ¬ (nat_ M i < nat_ M a))) ∧ Hid (NumAt wx base a0 n c M ∧ NOut a0 w wx))
    case first =>
      by_cases hg : i ≤ b1
      · have hg2 : (i : Int) ≤ (b1 : Int) := by omega
        have bi : i < n := by omega
        have ba : a < n := by omega
        have bii : (i : Int) < (n : Int) := by omega
        have bai : (a : Int) < (n : Int) := by omega
        obtain ⟨x0, xf⟩ := HN.out.get (i := i) bi
        obtain ⟨y0, yf⟩ := HN.out.get (i := a) ba
        obtain ⟨x, hx⟩ : ∃ x, x = nat_ M (i) := ⟨_, rfl⟩
        obtain ⟨y, hy⟩ : ∃ x, x = nat_ M (a) := ⟨_, rfl⟩
        rw [← hx] at x0
        rw [← hy] at y0
        obtain ⟨q, hq⟩ : ∃ q, q = decide (x < y) := ⟨_, rfl⟩
        have HLX := Lib.hid (fun W => HLS.out x y W)
        rw [← hq] at HLX
        have HXY := Lib.hid (show (q = true → i ≤ b1 ∧ nat_ M i < nat_ M a) ∧ (q = false → i ≤ b1 → ¬ (nat_ M i < nat_ M a)) from ⟨fun e => by rw [hq, hx, hy] at e; simp at e; omega, fun e _ => by rw [hq, hx, hy] at e; simp at e; omega⟩)
        clear hx hy hq
        go_quiet ((go_at_call 89; exact Calls.quiet_of_same (HLX.out _)))
        have HN2 := Lib.hid (HN.out.drewN nq)
        have HO2 := Lib.hid (HO.out.trans (out_drewN _ wr nq))
        obtain ⟨W2, hW2⟩ : ∃ X : World, X = wr.drewN nq := ⟨_, rfl⟩
        rw [← hW2] at HN2 HO2
        rw [← hW2]
        clear hW2
        have HF := Lib.hid (show (q = true → i ≤ b1 ∧ nat_ M i < nat_ M a) ∧ (q = false → i ≤ b1 → ¬ (nat_ M i < nat_ M a)) from by have h := HXY.out; cases q <;> simp at h ⊢ <;> exact h)
        go_wp2_with fail
        go_meet
        case rel => exact ⟨_, rfl, HF, Lib.hid ⟨HN2.out, HO2.out⟩⟩
      · have hg2 : decide ((i : Int) ≤ (b1 : Int)) = false := by simp; omega
        go_quiet (fail)
        have HN2 := Lib.hid (HN.out.drewN nq)
        have HO2 := Lib.hid (HO.out.trans (out_drewN _ wr nq))
        obtain ⟨W2, hW2⟩ : ∃ X : World, X = wr.drewN nq := ⟨_, rfl⟩
        rw [← hW2] at HN2 HO2
        rw [← hW2]
        clear hW2
        go_wp2_with fail
        go_meet
        case rel => exact ⟨false, rfl, Lib.hid ⟨(fun h => by cases h), fun _ h => absurd h hg⟩, Lib.hid ⟨HN2.out, HO2.out⟩⟩
    case rest =>
      clear HN HO
      obtain ⟨q, rfl, HQ, HW⟩ := hcut
      have HN := Lib.hid HW.out.1
      have HO := Lib.hid HW.out.2
      clear HW
      cases q with
      | true =>
        have HP2 := Lib.hid (HPI.out.stepI (HQ.out.1 rfl).1 (Nat.le_of_lt (HQ.out.1 rfl).2))
        have hij2 := (HQ.out.1 rfl).1
        go_wp2
        go_roundw
        case rel => exact ⟨i + 1, by go_num, by omega, by omega, by omega, HP2, HN, HO⟩
        case measure => simp [intOf]; omega
      | false =>
        have HI := Lib.hid (show i ≤ b1 → nat_ M a ≤ nat_ M i from fun h => Nat.le_of_not_lt (HQ.out.2 rfl h))
        clear HQ
        go_wp2
        go_loopw [11] (fun jv wr => ∃ j : Nat, jv = .int .i64 (j : Int) ∧ i ≤ j + 1 ∧ j ≤ b1 ∧ Hid (PI a b i j M) ∧ Hid (NumAt wr base a0 n c M) ∧ Hid (NOut a0 w wr)) (fun jv _ => (intOf jv).toNat)
        case atStart => exact ⟨b1, rfl, hij, Nat.le_refl _, HPI, HN, HO⟩
        case round =>
          clear HPI HN HO
          obtain ⟨j, rfl, hij, hb1, HPI, HN, HO⟩ := hrel
          go_wp2_with fail
          go_cut [60] (fun s wx => ∃ q : Bool, s = .bool q ∧ Hid ((q = true → i ≤ j ∧ ¬ (nat_ M j < nat_ M a)) ∧ (q = false → i ≤ j → nat_ M j < nat_ M a)) ∧ Hid (NumAt wx base a0 n c M ∧ NOut a0 w wx))
          case first =>
            by_cases hg : i ≤ j
            · have hg2 : (i : Int) ≤ (j : Int) := by omega
              have bj : j < n := by omega
              have ba : a < n := by omega
              have bji : (j : Int) < (n : Int) := by omega
              have bai : (a : Int) < (n : Int) := by omega
              obtain ⟨x0, xf⟩ := HN.out.get (i := j) bj
              obtain ⟨y0, yf⟩ := HN.out.get (i := a) ba
              obtain ⟨x, hx⟩ : ∃ x, x = nat_ M (j) := ⟨_, rfl⟩
              obtain ⟨y, hy⟩ : ∃ x, x = nat_ M (a) := ⟨_, rfl⟩
              rw [← hx] at x0
              rw [← hy] at y0
              obtain ⟨q, hq⟩ : ∃ q, q = decide (x < y) := ⟨_, rfl⟩
              have HLX := Lib.hid (fun W => HLS.out x y W)
              rw [← hq] at HLX
              have HXY := Lib.hid (show (q = false → i ≤ j ∧ ¬ (nat_ M j < nat_ M a)) ∧ (q = true → i ≤ j → nat_ M j < nat_ M a) from ⟨fun e => by rw [hq, hx, hy] at e; simp at e; omega, fun e _ => by rw [hq, hx, hy] at e; simp at e; omega⟩)
              clear hx hy hq
              go_quiet ((go_at_call 89; exact Calls.quiet_of_same (HLX.out _)))
              have HN2 := Lib.hid (HN.out.drewN nq)
              have HO2 := Lib.hid (HO.out.trans (out_drewN _ wr nq))
              obtain ⟨W2, hW2⟩ : ∃ X : World, X = wr.drewN nq := ⟨_, rfl⟩
              rw [← hW2] at HN2 HO2
              rw [← hW2]
              clear hW2
              have HF := Lib.hid (show ((!q) = true → i ≤ j ∧ ¬ (nat_ M j < nat_ M a)) ∧ ((!q) = false → i ≤ j → nat_ M j < nat_ M a) from by have h := HXY.out; cases q <;> simp at h ⊢ <;> exact h)
              go_wp2_with fail
              go_meet
              case rel => exact ⟨_, rfl, HF, Lib.hid ⟨HN2.out, HO2.out⟩⟩
            · have hg2 : decide ((i : Int) ≤ (j : Int)) = false := by simp; omega
              go_quiet (fail)
              have HN2 := Lib.hid (HN.out.drewN nq)
              have HO2 := Lib.hid (HO.out.trans (out_drewN _ wr nq))
              obtain ⟨W2, hW2⟩ : ∃ X : World, X = wr.drewN nq := ⟨_, rfl⟩
              rw [← hW2] at HN2 HO2
              rw [← hW2]
              clear hW2
              go_wp2_with fail
              go_meet
              case rel => exact ⟨false, rfl, Lib.hid ⟨(fun h => by cases h), fun _ h => absurd h hg⟩, Lib.hid ⟨HN2.out, HO2.out⟩⟩
          case rest =>
            clear HN HO
            obtain ⟨q, rfl, HQ, HW⟩ := hcut
            have HN := Lib.hid HW.out.1
            have HO := Lib.hid HW.out.2
            clear HW
            cases q with
            | true =>
              have HP2 := Lib.hid (HPI.out.stepJ (HQ.out.1 rfl).1 (Nat.le_of_not_lt (HQ.out.1 rfl).2))
              have hij2 := (HQ.out.1 rfl).1
              go_wp2
              go_roundw
              case rel => exact ⟨j - 1, by go_num, by omega, by omega, HP2, HN, HO⟩
              case measure => simp [intOf]; omega
            | false =>
              have HJ := Lib.hid (show i ≤ j → nat_ M j < nat_ M a from fun h => HQ.out.2 rfl h)
              clear HQ
              by_cases hle : j < i
              · have hlt2 : (j : Int) < (i : Int) := by omega
                clear HI HJ
                have hji : j < i := by omega
                have i3 : (j : Int) < (n : Int) := by omega
                obtain ⟨x0, xf⟩ := HN.out.get (i := j) (by omega)
                obtain ⟨y0, yf⟩ := HN.out.get (i := a) (by omega)
                obtain ⟨x, hx⟩ : ∃ x, x = nat_ M (j) := ⟨_, rfl⟩
                obtain ⟨y, hy⟩ : ∃ x, x = nat_ M (a) := ⟨_, rfl⟩
                rw [← hx] at x0
                rw [← hy] at y0
                obtain ⟨v', hv'⟩ := cell?_setCell_some (p := a0.add (j)) (x := .int .u32 (y : Int)) y0
                have hvf : (wc.setCell (a0.add (j)) (.int .u32 (y : Int))).frozen? (a0.add (a)) = false := by rw [World.frozen?_setCell]; exact yf
                obtain ⟨hs1, hs2⟩ := HN.out.swap (i := j) (j := a) (x := x) (y := y) (by omega) (by omega) hx hy
                have HNS := Lib.hid hs1
                have HOS := Lib.hid (HO.out.trans hs2)
                have FIN := Lib.hid (show PtPost w base a0 n c a b L (.returned (.tuple #[.int .i64 (j : Int), .bool true])) ((wc.setCell (a0.add j) (.int .u32 (y : Int))).setCell (a0.add a) (.int .u32 (x : Int))).drew from
                  ⟨j, true, swp M j a, rfl, HPM.out.trans (Pm.swp (by omega) (by omega) (by omega) (by omega) HML.out), HPI.out.done hji HML.out, HNS.out, HOS.out⟩)
                clear hs1 hs2 hx hy HNS HOS
                go_wp2_with fail
                go_region
                clear x0 xf y0 yf hv' hvf
                go_wp2
                go_ret2
                exact FIN.out
              · have hle : i ≤ j := by omega
                have hlt2 : ¬ (j : Int) < (i : Int) := by omega
                have hle2 : (i : Int) ≤ (j : Int) := by omega
                have hne : i < j := by
                  have h1 := HI.out (by omega)
                  have h2 := HJ.out hle
                  rcases Nat.lt_or_ge i j with h | h
                  · exact h
                  · have e : i = j := by omega
                    subst e
                    omega
                have i3 : (i : Int) < (n : Int) := by omega
                have i4 : (j : Int) < (n : Int) := by omega
                obtain ⟨x0, xf⟩ := HN.out.get (i := i) (by omega)
                obtain ⟨y0, yf⟩ := HN.out.get (i := j) (by omega)
                obtain ⟨x, hx⟩ : ∃ x, x = nat_ M (i) := ⟨_, rfl⟩
                obtain ⟨y, hy⟩ : ∃ x, x = nat_ M (j) := ⟨_, rfl⟩
                rw [← hx] at x0
                rw [← hy] at y0
                obtain ⟨v', hv'⟩ := cell?_setCell_some (p := a0.add (i)) (x := .int .u32 (y : Int)) y0
                have hvf : (wc.setCell (a0.add (i)) (.int .u32 (y : Int))).frozen? (a0.add (j)) = false := by rw [World.frozen?_setCell]; exact yf
                obtain ⟨hs1, hs2⟩ := HN.out.swap (i := i) (j := j) (x := x) (y := y) (by omega) (by omega) hx hy
                have HNS := Lib.hid hs1
                have HOS := Lib.hid (HO.out.trans hs2)
                have HP3 := Lib.hid (HPI.out.swap hne HML.out (HI.out (by omega)) (Nat.le_of_lt (HJ.out hle)))
                have HPM3 := Lib.hid (HPM.out.trans (Pm.swp (L := M) (a := a) (b := b) (i := i) (j := j) (by omega) (by omega) (by omega) (by omega) HML.out))
                have HML3 := Lib.hid (show b ≤ (swp M i j).length by rw [swp_length]; exact HML.out)
                clear hs1 hs2 hx hy HI HJ HN HO HPI
                go_wp2_with fail
                go_region
                clear x0 xf y0 yf hv' hvf
                go_wp2
                go_loopw [10, 11] (fun iv jv wr => ∃ (ii b1 : Nat) (M : List Nat), iv = .int .i64 (ii : Int) ∧ jv = .int .i64 (b1 : Int) ∧ a + 1 ≤ ii ∧ b1 + 1 ≤ b ∧ Hid (PI a b ii b1 M) ∧ Hid (Pm a b L M) ∧ Hid (b ≤ M.length) ∧ Hid (NumAt wr base a0 n c M) ∧ Hid (NOut a0 w wr)) (fun iv jv _ => (intOf jv).toNat + 1 - (intOf iv).toNat)
                case atStart => exact ⟨i + 1, j - 1, swp M i j, by go_num, by go_num, by omega, by omega, HP3, HPM3, HML3, HNS, HOS⟩
                case round =>
                  clear HNS HOS HP3 HPM3 HML3 HML HPM
                  obtain ⟨ii, b1, M, rfl, rfl, hii, hjb, HII, HPM, HML, HNS, HOS⟩ := hrel
                  go_wp2
                  go_loopw [10] (fun iv wr => ∃ i : Nat, iv = .int .i64 (i : Int) ∧ ii ≤ i ∧ a + 1 ≤ i ∧ i ≤ b1 + 1 ∧ Hid (PI a b i b1 M) ∧ Hid (NumAt wr base a0 n c M) ∧ Hid (NOut a0 w wr)) (fun iv _ => b1 + 1 - (intOf iv).toNat)
                  case atStart => exact ⟨ii, rfl, Nat.le_refl _, HII.out.ai, HII.out.ij, HII, HNS, HOS⟩
                  case round =>
                    clear HII HNS HOS
                    obtain ⟨i, rfl, hiii, hai, hij, HPI, HN, HO⟩ := hrel
                    go_wp2_with fail
                    go_cut [112] (fun s wx => ∃ q : Bool, s = .bool q ∧ Hid ((q = true → i ≤ b1 ∧ nat_ M i < nat_ M a) ∧ (q = false → i ≤ b1 → ¬ (nat_ M i < nat_ M a))) ∧ Hid (NumAt wx base a0 n c M ∧ NOut a0 w wx))
                    case first =>
                      by_cases hg : i ≤ b1
                      · have hg2 : (i : Int) ≤ (b1 : Int) := by omega
                        have bi : i < n := by omega
                        have ba : a < n := by omega
                        have bii : (i : Int) < (n : Int) := by omega
                        have bai : (a : Int) < (n : Int) := by omega
                        obtain ⟨x0, xf⟩ := HN.out.get (i := i) bi
                        obtain ⟨y0, yf⟩ := HN.out.get (i := a) ba
                        obtain ⟨x, hx⟩ : ∃ x, x = nat_ M (i) := ⟨_, rfl⟩
                        obtain ⟨y, hy⟩ : ∃ x, x = nat_ M (a) := ⟨_, rfl⟩
                        rw [← hx] at x0
                        rw [← hy] at y0
                        obtain ⟨q, hq⟩ : ∃ q, q = decide (x < y) := ⟨_, rfl⟩
                        have HLX := Lib.hid (fun W => HLS.out x y W)
                        rw [← hq] at HLX
                        have HXY := Lib.hid (show (q = true → i ≤ b1 ∧ nat_ M i < nat_ M a) ∧ (q = false → i ≤ b1 → ¬ (nat_ M i < nat_ M a)) from ⟨fun e => by rw [hq, hx, hy] at e; simp at e; omega, fun e _ => by rw [hq, hx, hy] at e; simp at e; omega⟩)
                        clear hx hy hq
                        go_quiet ((go_at_call 89; exact Calls.quiet_of_same (HLX.out _)))
                        have HN2 := Lib.hid (HN.out.drewN nq)
                        have HO2 := Lib.hid (HO.out.trans (out_drewN _ wr nq))
                        obtain ⟨W2, hW2⟩ : ∃ X : World, X = wr.drewN nq := ⟨_, rfl⟩
                        rw [← hW2] at HN2 HO2
                        rw [← hW2]
                        clear hW2
                        have HF := Lib.hid (show (q = true → i ≤ b1 ∧ nat_ M i < nat_ M a) ∧ (q = false → i ≤ b1 → ¬ (nat_ M i < nat_ M a)) from by have h := HXY.out; cases q <;> simp at h ⊢ <;> exact h)
                        go_wp2_with fail
                        go_meet
                        case rel => exact ⟨_, rfl, HF, Lib.hid ⟨HN2.out, HO2.out⟩⟩
                      · have hg2 : decide ((i : Int) ≤ (b1 : Int)) = false := by simp; omega
                        go_quiet (fail)
                        have HN2 := Lib.hid (HN.out.drewN nq)
                        have HO2 := Lib.hid (HO.out.trans (out_drewN _ wr nq))
                        obtain ⟨W2, hW2⟩ : ∃ X : World, X = wr.drewN nq := ⟨_, rfl⟩
                        rw [← hW2] at HN2 HO2
                        rw [← hW2]
                        clear hW2
                        go_wp2_with fail
                        go_meet
                        case rel => exact ⟨false, rfl, Lib.hid ⟨(fun h => by cases h), fun _ h => absurd h hg⟩, Lib.hid ⟨HN2.out, HO2.out⟩⟩
                    case rest =>
                      clear HN HO
                      obtain ⟨q, rfl, HQ, HW⟩ := hcut
                      have HN := Lib.hid HW.out.1
                      have HO := Lib.hid HW.out.2
                      clear HW
                      cases q with
                      | true =>
                        have HP2 := Lib.hid (HPI.out.stepI (HQ.out.1 rfl).1 (Nat.le_of_lt (HQ.out.1 rfl).2))
                        have hij2 := (HQ.out.1 rfl).1
                        go_wp2
                        go_roundw
                        case rel => exact ⟨i + 1, by go_num, by omega, by omega, by omega, HP2, HN, HO⟩
                        case measure => simp [intOf]; omega
                      | false =>
                        have HI := Lib.hid (show i ≤ b1 → nat_ M a ≤ nat_ M i from fun h => Nat.le_of_not_lt (HQ.out.2 rfl h))
                        clear HQ
                        go_wp2
                        go_loopw [11] (fun jv wr => ∃ j : Nat, jv = .int .i64 (j : Int) ∧ i ≤ j + 1 ∧ j ≤ b1 ∧ Hid (PI a b i j M) ∧ Hid (NumAt wr base a0 n c M) ∧ Hid (NOut a0 w wr)) (fun jv _ => (intOf jv).toNat)
                        case atStart => exact ⟨b1, rfl, hij, Nat.le_refl _, HPI, HN, HO⟩
                        case round =>
                          clear HPI HN HO
                          obtain ⟨j, rfl, hij, hb1, HPI, HN, HO⟩ := hrel
                          go_wp2_with fail
                          go_cut [129] (fun s wx => ∃ q : Bool, s = .bool q ∧ Hid ((q = true → i ≤ j ∧ ¬ (nat_ M j < nat_ M a)) ∧ (q = false → i ≤ j → nat_ M j < nat_ M a)) ∧ Hid (NumAt wx base a0 n c M ∧ NOut a0 w wx))
                          case first =>
                            by_cases hg : i ≤ j
                            · have hg2 : (i : Int) ≤ (j : Int) := by omega
                              have bj : j < n := by omega
                              have ba : a < n := by omega
                              have bji : (j : Int) < (n : Int) := by omega
                              have bai : (a : Int) < (n : Int) := by omega
                              obtain ⟨x0, xf⟩ := HN.out.get (i := j) bj
                              obtain ⟨y0, yf⟩ := HN.out.get (i := a) ba
                              obtain ⟨x, hx⟩ : ∃ x, x = nat_ M (j) := ⟨_, rfl⟩
                              obtain ⟨y, hy⟩ : ∃ x, x = nat_ M (a) := ⟨_, rfl⟩
                              rw [← hx] at x0
                              rw [← hy] at y0
                              obtain ⟨q, hq⟩ : ∃ q, q = decide (x < y) := ⟨_, rfl⟩
                              have HLX := Lib.hid (fun W => HLS.out x y W)
                              rw [← hq] at HLX
                              have HXY := Lib.hid (show (q = false → i ≤ j ∧ ¬ (nat_ M j < nat_ M a)) ∧ (q = true → i ≤ j → nat_ M j < nat_ M a) from ⟨fun e => by rw [hq, hx, hy] at e; simp at e; omega, fun e _ => by rw [hq, hx, hy] at e; simp at e; omega⟩)
                              clear hx hy hq
                              go_quiet ((go_at_call 89; exact Calls.quiet_of_same (HLX.out _)))
                              have HN2 := Lib.hid (HN.out.drewN nq)
                              have HO2 := Lib.hid (HO.out.trans (out_drewN _ wr nq))
                              obtain ⟨W2, hW2⟩ : ∃ X : World, X = wr.drewN nq := ⟨_, rfl⟩
                              rw [← hW2] at HN2 HO2
                              rw [← hW2]
                              clear hW2
                              have HF := Lib.hid (show ((!q) = true → i ≤ j ∧ ¬ (nat_ M j < nat_ M a)) ∧ ((!q) = false → i ≤ j → nat_ M j < nat_ M a) from by have h := HXY.out; cases q <;> simp at h ⊢ <;> exact h)
                              go_wp2_with fail
                              go_meet
                              case rel => exact ⟨_, rfl, HF, Lib.hid ⟨HN2.out, HO2.out⟩⟩
                            · have hg2 : decide ((i : Int) ≤ (j : Int)) = false := by simp; omega
                              go_quiet (fail)
                              have HN2 := Lib.hid (HN.out.drewN nq)
                              have HO2 := Lib.hid (HO.out.trans (out_drewN _ wr nq))
                              obtain ⟨W2, hW2⟩ : ∃ X : World, X = wr.drewN nq := ⟨_, rfl⟩
                              rw [← hW2] at HN2 HO2
                              rw [← hW2]
                              clear hW2
                              go_wp2_with fail
                              go_meet
                              case rel => exact ⟨false, rfl, Lib.hid ⟨(fun h => by cases h), fun _ h => absurd h hg⟩, Lib.hid ⟨HN2.out, HO2.out⟩⟩
                          case rest =>
                            clear HN HO
                            obtain ⟨q, rfl, HQ, HW⟩ := hcut
                            have HN := Lib.hid HW.out.1
                            have HO := Lib.hid HW.out.2
                            clear HW
                            cases q with
                            | true =>
                              have HP2 := Lib.hid (HPI.out.stepJ (HQ.out.1 rfl).1 (Nat.le_of_not_lt (HQ.out.1 rfl).2))
                              have hij2 := (HQ.out.1 rfl).1
                              go_wp2
                              go_roundw
                              case rel => exact ⟨j - 1, by go_num, by omega, by omega, HP2, HN, HO⟩
                              case measure => simp [intOf]; omega
                            | false =>
                              have HJ := Lib.hid (show i ≤ j → nat_ M j < nat_ M a from fun h => HQ.out.2 rfl h)
                              clear HQ
                              by_cases hle : j < i
                              · have hlt2 : (j : Int) < (i : Int) := by omega
                                clear HI HJ
                                have hji : j < i := by omega
                                have i3 : (j : Int) < (n : Int) := by omega
                                obtain ⟨x0, xf⟩ := HN.out.get (i := j) (by omega)
                                obtain ⟨y0, yf⟩ := HN.out.get (i := a) (by omega)
                                obtain ⟨x, hx⟩ : ∃ x, x = nat_ M (j) := ⟨_, rfl⟩
                                obtain ⟨y, hy⟩ : ∃ x, x = nat_ M (a) := ⟨_, rfl⟩
                                rw [← hx] at x0
                                rw [← hy] at y0
                                obtain ⟨v', hv'⟩ := cell?_setCell_some (p := a0.add (j)) (x := .int .u32 (y : Int)) y0
                                have hvf : (wc.setCell (a0.add (j)) (.int .u32 (y : Int))).frozen? (a0.add (a)) = false := by rw [World.frozen?_setCell]; exact yf
                                obtain ⟨hs1, hs2⟩ := HN.out.swap (i := j) (j := a) (x := x) (y := y) (by omega) (by omega) hx hy
                                have HNS := Lib.hid hs1
                                have HOS := Lib.hid (HO.out.trans hs2)
                                have FIN := Lib.hid (show PtPost w base a0 n c a b L (.returned (.tuple #[.int .i64 (j : Int), .bool false])) ((wc.setCell (a0.add j) (.int .u32 (y : Int))).setCell (a0.add a) (.int .u32 (x : Int))).drew from
                                  ⟨j, false, swp M j a, rfl, HPM.out.trans (Pm.swp (by omega) (by omega) (by omega) (by omega) HML.out), HPI.out.done hji HML.out, HNS.out, HOS.out⟩)
                                clear hs1 hs2 hx hy HNS HOS
                                go_wp2_with fail
                                go_region
                                clear x0 xf y0 yf hv' hvf
                                go_wp2
                                go_ret2
                                exact FIN.out
                              · have hle : i ≤ j := by omega
                                have hlt2 : ¬ (j : Int) < (i : Int) := by omega
                                have hle2 : (i : Int) ≤ (j : Int) := by omega
                                have hne : i < j := by
                                  have h1 := HI.out (by omega)
                                  have h2 := HJ.out hle
                                  rcases Nat.lt_or_ge i j with h | h
                                  · exact h
                                  · have e : i = j := by omega
                                    subst e
                                    omega
                                have i3 : (i : Int) < (n : Int) := by omega
                                have i4 : (j : Int) < (n : Int) := by omega
                                obtain ⟨x0, xf⟩ := HN.out.get (i := i) (by omega)
                                obtain ⟨y0, yf⟩ := HN.out.get (i := j) (by omega)
                                obtain ⟨x, hx⟩ : ∃ x, x = nat_ M (i) := ⟨_, rfl⟩
                                obtain ⟨y, hy⟩ : ∃ x, x = nat_ M (j) := ⟨_, rfl⟩
                                rw [← hx] at x0
                                rw [← hy] at y0
                                obtain ⟨v', hv'⟩ := cell?_setCell_some (p := a0.add (i)) (x := .int .u32 (y : Int)) y0
                                have hvf : (wc.setCell (a0.add (i)) (.int .u32 (y : Int))).frozen? (a0.add (j)) = false := by rw [World.frozen?_setCell]; exact yf
                                obtain ⟨hs1, hs2⟩ := HN.out.swap (i := i) (j := j) (x := x) (y := y) (by omega) (by omega) hx hy
                                have HNS := Lib.hid hs1
                                have HOS := Lib.hid (HO.out.trans hs2)
                                have HP3 := Lib.hid (HPI.out.swap hne HML.out (HI.out (by omega)) (Nat.le_of_lt (HJ.out hle)))
                                have HPM3 := Lib.hid (HPM.out.trans (Pm.swp (L := M) (a := a) (b := b) (i := i) (j := j) (by omega) (by omega) (by omega) (by omega) HML.out))
                                have HML3 := Lib.hid (show b ≤ (swp M i j).length by rw [swp_length]; exact HML.out)
                                clear hs1 hs2 hx hy HI HJ HN HO HPI
                                go_wp2_with fail
                                go_region
                                clear x0 xf y0 yf hv' hvf
                                go_wp2
                                go_roundw
                                case rel => exact ⟨i + 1, j - 1, swp M i j, by go_num, by go_num, by omega, by omega, HP3, HPM3, HML3, HNS, HOS⟩
                                case measure => simp [intOf]; omega
end Go.Proofs.Yteaibgnelnblnaa
end
section
namespace Go.Proofs.Yteaibgnelnblnaa
open Go.RowKit Me Tx Ed Mg Va

/-- A part that is being parted by its first element, what is the same ahead. -/
structure PE (a b i j v : Nat) (M : List Nat) : Prop where
  ai : a + 1 ≤ i
  ij : i ≤ j + 1
  jb : j + 1 ≤ b
  fst : nat_ M a = v
  low : ∀ k, a ≤ k → k < i → nat_ M k ≤ v
  up : ∀ k, j < k → k < b → v ≤ nat_ M k
section
variable {a b i j v : Nat} {M : List Nat}
theorem PE.start (h : a < b) (hv : nat_ M a = v) : PE a b (a + 1) (b - 1) v M := ⟨Nat.le_refl _, by omega, by omega, hv, fun k h1 h2 => by
  have e : k = a := by omega
  subst e; omega, fun k h1 h2 => by omega⟩
theorem PE.stepI (h : PE a b i j v M) (hij : i ≤ j) (hlt : nat_ M i ≤ nat_ M a) : PE a b (i + 1) j v M :=
  ⟨by have := h.ai; omega, by omega, h.jb, h.fst, fun k h1 h2 => by
    by_cases e : k = i
    · subst e; rw [h.fst] at hlt; exact hlt
    · exact h.low k h1 (by omega), h.up⟩
theorem PE.stepJ (h : PE a b i j v M) (hij : i ≤ j) (hlt : nat_ M a ≤ nat_ M j) : PE a b i (j - 1) v M := by
  have := h.ai
  have := h.jb
  exact ⟨h.ai, by omega, by omega, h.fst, h.low, fun k h1 h2 => by
    by_cases e : k = j
    · subst e; rw [h.fst] at hlt; exact hlt
    · exact h.up k (by omega) h2⟩
theorem PE.swap (h : PE a b i j v M) (hij : i < j) (hl : b ≤ M.length) (hi : nat_ M a ≤ nat_ M i) (hj : nat_ M j ≤ nat_ M a) : PE a b (i + 1) (j - 1) v (swp M i j) := by
  have h1 := h.ai
  have h2 := h.jb
  have l1 : i < M.length := by omega
  have l2 : j < M.length := by omega
  rw [h.fst] at hi hj
  refine ⟨by omega, by omega, by omega, ?_, fun k k1 k2 => ?_, fun k k1 k2 => ?_⟩
  · rw [nat_swp l1 l2, if_neg (show ¬ a = j by omega), if_neg (show ¬ a = i by omega)]; exact h.fst
  · rw [nat_swp l1 l2, if_neg (show ¬ k = j by omega)]
    by_cases e : k = i
    · rw [if_pos e]; exact hj
    · rw [if_neg e]; exact h.low k k1 (by omega)
  · rw [nat_swp l1 l2]
    by_cases e : k = j
    · rw [if_pos e]; exact hi
    · rw [if_neg e, if_neg (by omega)]; exact h.up k (by omega) k2
theorem PE.done (h : PE a b i j v M) (hij : j < i) : Eqs a b i v M := ⟨by have := h.ai; omega, by have := h.ij; have := h.jb; omega, h.low, fun k h1 h2 => h.up k (by omega) h2⟩
end
def EqPost (w : World) (base : Nat) (a0 : Addr) (n c a b v : Nat) (L : List Nat) (e : Ending) (w' : World) : Prop :=
  ∃ (mid : Nat) (M : List Nat), e = .returned (.int .i64 (mid : Int)) ∧ Pm a b L M ∧ Eqs a b mid v M ∧ NumAt w' base a0 n c M ∧ NOut a0 w w'
set_option maxRecDepth 100000 in
set_option maxHeartbeats 6000000 in
theorem parteq_any (base : Nat) (a0 : Addr) (n c a b p : Nat) (L : List Nat) (w : World) (h : NumAt w base a0 n c L) (hap : a ≤ p) (hpb : p < b) (hb : b ≤ n) (hn : n ≤ 1000000000) :
    Calls Try.prog 90 #[.slice (some a0) n c, .int .i64 (a : Int), .int .i64 (b : Int), .int .i64 (p : Int)] w (EqPost w base a0 n c a b (nat_ L p) L) := by
  have H0 := Lib.hid h
  have HLS := Lib.hid less_any
  obtain ⟨b1, hb1⟩ : ∃ b1, b1 = b - 1 := ⟨_, rfl⟩
  have HB1 := Lib.hid hb1
  have d1 : (b : Int) - 1 = (b1 : Int) := by omega
  have b2 : b1 < b := by omega
  have i1 : (a : Int) < (n : Int) := by omega
  have i2 : (p : Int) < (n : Int) := by omega
  have HOR := Lib.hid (Out.refl (fun k => k = a0.block) w)
  obtain ⟨x0, xf⟩ := H0.out.get (i := a) (by omega)
  obtain ⟨y0, yf⟩ := H0.out.get (i := p) (by omega)
  obtain ⟨x, hx⟩ : ∃ x, x = nat_ L (a) := ⟨_, rfl⟩
  obtain ⟨y, hy⟩ : ∃ x, x = nat_ L (p) := ⟨_, rfl⟩
  rw [← hx] at x0
  rw [← hy] at y0
  obtain ⟨v', hv'⟩ := cell?_setCell_some (p := a0.add (a)) (x := .int .u32 (y : Int)) y0
  have hvf : (w.setCell (a0.add (a)) (.int .u32 (y : Int))).frozen? (a0.add (p)) = false := by rw [World.frozen?_setCell]; exact yf
  obtain ⟨hs1, hs2⟩ := H0.out.swap (i := a) (j := p) (x := x) (y := y) (by omega) (by omega) hx hy
  have HNS := Lib.hid hs1
  have HOS := Lib.hid (HOR.out.trans hs2)
  have HPM := Lib.hid (Pm.swp (L := L) (a := a) (b := b) (i := a) (j := p) (by omega) (by omega) (by omega) hpb (by rw [h.len]; exact hb))
  obtain ⟨v, hv⟩ : ∃ v, v = nat_ L p := ⟨_, rfl⟩
  have HV := Lib.hid (show nat_ (swp L a p) a = v by
    rw [nat_swp (by rw [h.len]; omega) (by rw [h.len]; omega), hv]
    by_cases e : a = p
    · rw [if_pos e, e]
    · rw [if_neg e, if_pos rfl])
  rw [← hv]
  clear hs1 hs2 hx hy h hb1 hv
  go_enter Try.func90, Try.ntmps90
  go_wp2_with fail
  go_region
  clear x0 xf y0 yf hv' hvf
  obtain ⟨M, hM⟩ : ∃ M, M = swp L a p := ⟨_, rfl⟩
  rw [← hM] at HNS HPM HV
  clear hM
  have HML := Lib.hid (show b ≤ M.length by rw [HNS.out.len]; exact hb)
  have HPI := Lib.hid (show PE a b (a + 1) b1 v M from by rw [HB1.out]; exact PE.start (by omega) HV.out)
  clear HV
  go_wp2
  go_loopw [9, 10] (fun iv jv wr => ∃ (ii jj : Nat) (M : List Nat), iv = .int .i64 (ii : Int) ∧ jv = .int .i64 (jj : Int) ∧ a + 1 ≤ ii ∧ jj + 1 ≤ b ∧ Hid (PE a b ii jj v M) ∧ Hid (Pm a b L M) ∧ Hid (b ≤ M.length) ∧ Hid (NumAt wr base a0 n c M) ∧ Hid (NOut a0 w wr)) (fun iv jv _ => (intOf jv).toNat + 1 - (intOf iv).toNat)
  case atStart => exact ⟨a + 1, b1, M, by go_num, rfl, Nat.le_refl _, by omega, HPI, HPM, HML, HNS, HOS⟩
  case round =>
    clear HNS HOS HPI HPM HML HB1
    obtain ⟨ii, jj, M, rfl, rfl, hii, hjb, HII, HPM, HML, HNS, HOS⟩ := hrel
    go_wp2
    go_loopw [9] (fun iv wr => ∃ i : Nat, iv = .int .i64 (i : Int) ∧ ii ≤ i ∧ a + 1 ≤ i ∧ i ≤ jj + 1 ∧ Hid (PE a b i jj v M) ∧ Hid (NumAt wr base a0 n c M) ∧ Hid (NOut a0 w wr)) (fun iv _ => jj + 1 - (intOf iv).toNat)
    case atStart => exact ⟨ii, rfl, Nat.le_refl _, HII.out.ai, HII.out.ij, HII, HNS, HOS⟩
    case round =>
      clear HII HNS HOS
      obtain ⟨i, rfl, hiii, hai, hij, HPI, HN, HO⟩ := hrel
      go_wp2_with fail
      go_cut [43] (fun s wx => ∃ q : Bool, s = .bool q ∧ Hid ((q = true → i ≤ jj ∧ ¬ (nat_ M a < nat_ M i)) ∧ (q = false → i ≤ jj → nat_ M a < nat_ M i)) ∧ Hid (NumAt wx base a0 n c M ∧ NOut a0 w wx))
      case first =>
        by_cases hg : i ≤ jj
        · have hg2 : (i : Int) ≤ (jj : Int) := by omega
          have ba : a < n := by omega
          have bi : i < n := by omega
          have bai : (a : Int) < (n : Int) := by omega
          have bii : (i : Int) < (n : Int) := by omega
          obtain ⟨x0, xf⟩ := HN.out.get (i := a) ba
          obtain ⟨y0, yf⟩ := HN.out.get (i := i) bi
          obtain ⟨x, hx⟩ : ∃ x, x = nat_ M (a) := ⟨_, rfl⟩
          obtain ⟨y, hy⟩ : ∃ x, x = nat_ M (i) := ⟨_, rfl⟩
          rw [← hx] at x0
          rw [← hy] at y0
          obtain ⟨q, hq⟩ : ∃ q, q = decide (x < y) := ⟨_, rfl⟩
          have HLX := Lib.hid (fun W => HLS.out x y W)
          rw [← hq] at HLX
          have HXY := Lib.hid (show (q = false → i ≤ jj ∧ ¬ (nat_ M a < nat_ M i)) ∧ (q = true → i ≤ jj → nat_ M a < nat_ M i) from ⟨fun e => by rw [hq, hx, hy] at e; simp at e; omega, fun e _ => by rw [hq, hx, hy] at e; simp at e; omega⟩)
          clear hx hy hq
          go_quiet ((go_at_call 89; exact Calls.quiet_of_same (HLX.out _)))
          have HN2 := Lib.hid (HN.out.drewN nq)
          have HO2 := Lib.hid (HO.out.trans (out_drewN _ wr nq))
          obtain ⟨W2, hW2⟩ : ∃ X : World, X = wr.drewN nq := ⟨_, rfl⟩
          rw [← hW2] at HN2 HO2
          rw [← hW2]
          clear hW2
          have HF := Lib.hid (show ((!q) = true → i ≤ jj ∧ ¬ (nat_ M a < nat_ M i)) ∧ ((!q) = false → i ≤ jj → nat_ M a < nat_ M i) from by have h := HXY.out; cases q <;> simp at h ⊢ <;> exact h)
          go_wp2_with fail
          go_meet
          case rel => exact ⟨_, rfl, HF, Lib.hid ⟨HN2.out, HO2.out⟩⟩
        · have hg2 : decide ((i : Int) ≤ (jj : Int)) = false := by simp; omega
          go_quiet (fail)
          have HN2 := Lib.hid (HN.out.drewN nq)
          have HO2 := Lib.hid (HO.out.trans (out_drewN _ wr nq))
          obtain ⟨W2, hW2⟩ : ∃ X : World, X = wr.drewN nq := ⟨_, rfl⟩
          rw [← hW2] at HN2 HO2
          rw [← hW2]
          clear hW2
          go_wp2_with fail
          go_meet
          case rel => exact ⟨false, rfl, Lib.hid ⟨(fun h => by cases h), fun _ h => absurd h hg⟩, Lib.hid ⟨HN2.out, HO2.out⟩⟩
      case rest =>
        clear HN HO
        obtain ⟨q, rfl, HQ, HW⟩ := hcut
        have HN := Lib.hid HW.out.1
        have HO := Lib.hid HW.out.2
        clear HW
        cases q with
        | true =>
          have HP2 := Lib.hid (HPI.out.stepI (HQ.out.1 rfl).1 (Nat.le_of_not_lt (HQ.out.1 rfl).2))
          have hij2 := (HQ.out.1 rfl).1
          go_wp2
          go_roundw
          case rel => exact ⟨i + 1, by go_num, by omega, by omega, by omega, HP2, HN, HO⟩
          case measure => simp [intOf]; omega
        | false =>
          have HI := Lib.hid (show i ≤ jj → nat_ M a < nat_ M i from fun h => HQ.out.2 rfl h)
          clear HQ
          go_wp2
          go_loopw [10] (fun jv wr => ∃ j : Nat, jv = .int .i64 (j : Int) ∧ i ≤ j + 1 ∧ j ≤ jj ∧ Hid (PE a b i j v M) ∧ Hid (NumAt wr base a0 n c M) ∧ Hid (NOut a0 w wr)) (fun jv _ => (intOf jv).toNat)
          case atStart => exact ⟨jj, rfl, hij, Nat.le_refl _, HPI, HN, HO⟩
          case round =>
            clear HPI HN HO
            obtain ⟨j, rfl, hij, hjj, HPI, HN, HO⟩ := hrel
            go_wp2_with fail
            go_cut [59] (fun s wx => ∃ q : Bool, s = .bool q ∧ Hid ((q = true → i ≤ j ∧ nat_ M a < nat_ M j) ∧ (q = false → i ≤ j → ¬ (nat_ M a < nat_ M j))) ∧ Hid (NumAt wx base a0 n c M ∧ NOut a0 w wx))
            case first =>
              by_cases hg : i ≤ j
              · have hg2 : (i : Int) ≤ (j : Int) := by omega
                have ba : a < n := by omega
                have bj : j < n := by omega
                have bai : (a : Int) < (n : Int) := by omega
                have bji : (j : Int) < (n : Int) := by omega
                obtain ⟨x0, xf⟩ := HN.out.get (i := a) ba
                obtain ⟨y0, yf⟩ := HN.out.get (i := j) bj
                obtain ⟨x, hx⟩ : ∃ x, x = nat_ M (a) := ⟨_, rfl⟩
                obtain ⟨y, hy⟩ : ∃ x, x = nat_ M (j) := ⟨_, rfl⟩
                rw [← hx] at x0
                rw [← hy] at y0
                obtain ⟨q, hq⟩ : ∃ q, q = decide (x < y) := ⟨_, rfl⟩
                have HLX := Lib.hid (fun W => HLS.out x y W)
                rw [← hq] at HLX
                have HXY := Lib.hid (show (q = true → i ≤ j ∧ nat_ M a < nat_ M j) ∧ (q = false → i ≤ j → ¬ (nat_ M a < nat_ M j)) from ⟨fun e => by rw [hq, hx, hy] at e; simp at e; omega, fun e _ => by rw [hq, hx, hy] at e; simp at e; omega⟩)
                clear hx hy hq
                go_quiet ((go_at_call 89; exact Calls.quiet_of_same (HLX.out _)))
                have HN2 := Lib.hid (HN.out.drewN nq)
                have HO2 := Lib.hid (HO.out.trans (out_drewN _ wr nq))
                obtain ⟨W2, hW2⟩ : ∃ X : World, X = wr.drewN nq := ⟨_, rfl⟩
                rw [← hW2] at HN2 HO2
                rw [← hW2]
                clear hW2
                have HF := Lib.hid (show (q = true → i ≤ j ∧ nat_ M a < nat_ M j) ∧ (q = false → i ≤ j → ¬ (nat_ M a < nat_ M j)) from by have h := HXY.out; cases q <;> simp at h ⊢ <;> exact h)
                go_wp2_with fail
                go_meet
                case rel => exact ⟨_, rfl, HF, Lib.hid ⟨HN2.out, HO2.out⟩⟩
              · have hg2 : decide ((i : Int) ≤ (j : Int)) = false := by simp; omega
                go_quiet (fail)
                have HN2 := Lib.hid (HN.out.drewN nq)
                have HO2 := Lib.hid (HO.out.trans (out_drewN _ wr nq))
                obtain ⟨W2, hW2⟩ : ∃ X : World, X = wr.drewN nq := ⟨_, rfl⟩
                rw [← hW2] at HN2 HO2
                rw [← hW2]
                clear hW2
                go_wp2_with fail
                go_meet
                case rel => exact ⟨false, rfl, Lib.hid ⟨(fun h => by cases h), fun _ h => absurd h hg⟩, Lib.hid ⟨HN2.out, HO2.out⟩⟩
            case rest =>
              clear HN HO
              obtain ⟨q, rfl, HQ, HW⟩ := hcut
              have HN := Lib.hid HW.out.1
              have HO := Lib.hid HW.out.2
              clear HW
              cases q with
              | true =>
                have HP2 := Lib.hid (HPI.out.stepJ (HQ.out.1 rfl).1 (Nat.le_of_lt (HQ.out.1 rfl).2))
                have hij2 := (HQ.out.1 rfl).1
                go_wp2
                go_roundw
                case rel => exact ⟨j - 1, by go_num, by omega, by omega, HP2, HN, HO⟩
                case measure => simp [intOf]; omega
              | false =>
                have HJ := Lib.hid (show i ≤ j → nat_ M j ≤ nat_ M a from fun h => Nat.le_of_not_lt (HQ.out.2 rfl h))
                clear HQ
                by_cases hle : j < i
                · have hlt2 : (j : Int) < (i : Int) := by omega
                  have FIN := Lib.hid (show EqPost w base a0 n c a b v L (.returned (.int .i64 (i : Int))) wc from ⟨i, M, rfl, HPM.out, HPI.out.done hle, HN.out, HO.out⟩)
                  clear HI HJ
                  go_wp2
                  go_ret
                  exact FIN.out
                · have hle : i ≤ j := by omega
                  have hlt2 : ¬ (j : Int) < (i : Int) := by omega
                  have hle2 : (i : Int) ≤ (j : Int) := by omega
                  have hne : i < j := by
                    have h1 := HI.out (by omega)
                    have h2 := HJ.out hle
                    rcases Nat.lt_or_ge i j with h | h
                    · exact h
                    · have e : i = j := by omega
                      subst e
                      omega
                  have i3 : (i : Int) < (n : Int) := by omega
                  have i4 : (j : Int) < (n : Int) := by omega
                  obtain ⟨x0, xf⟩ := HN.out.get (i := i) (by omega)
                  obtain ⟨y0, yf⟩ := HN.out.get (i := j) (by omega)
                  obtain ⟨x, hx⟩ : ∃ x, x = nat_ M (i) := ⟨_, rfl⟩
                  obtain ⟨y, hy⟩ : ∃ x, x = nat_ M (j) := ⟨_, rfl⟩
                  rw [← hx] at x0
                  rw [← hy] at y0
                  obtain ⟨v', hv'⟩ := cell?_setCell_some (p := a0.add (i)) (x := .int .u32 (y : Int)) y0
                  have hvf : (wc.setCell (a0.add (i)) (.int .u32 (y : Int))).frozen? (a0.add (j)) = false := by rw [World.frozen?_setCell]; exact yf
                  obtain ⟨hs1, hs2⟩ := HN.out.swap (i := i) (j := j) (x := x) (y := y) (by omega) (by omega) hx hy
                  have HNS := Lib.hid hs1
                  have HOS := Lib.hid (HO.out.trans hs2)
                  have HP3 := Lib.hid (HPI.out.swap hne HML.out (Nat.le_of_lt (HI.out (by omega))) (HJ.out hle))
                  have HPM3 := Lib.hid (HPM.out.trans (Pm.swp (L := M) (a := a) (b := b) (i := i) (j := j) (by omega) (by omega) (by omega) (by omega) HML.out))
                  have HML3 := Lib.hid (show b ≤ (swp M i j).length by rw [swp_length]; exact HML.out)
                  clear hs1 hs2 hx hy HI HJ HN HO HPI
                  go_wp2_with fail
                  go_region
                  clear x0 xf y0 yf hv' hvf
                  go_wp2
                  go_roundw
                  case rel => exact ⟨i + 1, j - 1, swp M i j, by go_num, by go_num, by omega, by omega, HP3, HPM3, HML3, HNS, HOS⟩
                  case measure => simp [intOf]; omega
end Go.Proofs.Yteaibgnelnblnaa
end
section
namespace Go.Proofs.Yteaibgnelnblnaa
open Go.RowKit Me Tx Ed Mg Va

theorem So.swap {a i i1 j : Nat} {M : List Nat} (h : So a i M) (h1 : i ≤ i1) (h2 : i ≤ j) (l1 : i1 < M.length) (l2 : j < M.length) : So a i (swp M i1 j) := fun p q hp hpq hq => by
  rw [nat_swp l1 l2, nat_swp l1 l2, if_neg (by omega), if_neg (by omega), if_neg (by omega), if_neg (by omega)]
  exact h p q hp hpq hq
theorem So.less {a i i1 : Nat} {M : List Nat} (h : So a i M) (h1 : i1 ≤ i) : So a i1 M := fun p q hp hpq hq => h p q hp hpq (by omega)
theorem So.more {a i i1 : Nat} {M : List Nat} (h : So a i M) (h1 : i1 + 1 = i) (hle : nat_ M i1 ≤ nat_ M i) : So a (i + 1) M := fun p q hp hpq hq => by
  by_cases e : q = i
  · subst e
    by_cases e2 : p = i1
    · subst e2; exact hle
    · exact Nat.le_trans (h p i1 hp (by omega) (by omega)) hle
  · exact h p q hp hpq (by omega)
def PiPost (w : World) (base : Nat) (a0 : Addr) (n c a b : Nat) (L : List Nat) (e : Ending) (w' : World) : Prop :=
  ∃ (q : Bool) (M : List Nat), e = .returned (.bool q) ∧ Pm a b L M ∧ (q = true → So a b M) ∧ NumAt w' base a0 n c M ∧ NOut a0 w w'
set_option maxRecDepth 100000 in
set_option maxHeartbeats 6000000 in
theorem partial_any (base : Nat) (a0 : Addr) (n c a b : Nat) (L : List Nat) (w : World) (h : NumAt w base a0 n c L) (hab : a < b) (hb : b ≤ n) (hn : n ≤ 1000000000) (hlo : LoOk a b L) :
    Calls Try.prog 88 #[.slice (some a0) n c, .int .i64 (a : Int), .int .i64 (b : Int)] w (PiPost w base a0 n c a b L) := by
  have H0 := Lib.hid h
  have HLS := Lib.hid less_any
  have HLO := Lib.hid hlo
  clear h hlo
  go_enter Try.func88, Try.ntmps88
  go_wp2
  go_loopw [7, 8] (fun iv sv wr => ∃ (ii s : Nat) (M : List Nat), iv = .int .i64 (ii : Int) ∧ sv = .int .i64 (s : Int) ∧ a + 1 ≤ ii ∧ ii ≤ b ∧ s ≤ 5 ∧ Hid (So a ii M) ∧ Hid (Pm a b L M) ∧ Hid (NumAt wr base a0 n c M) ∧ Hid (NOut a0 w wr)) (fun _ sv _ => 5 - (intOf sv).toNat)
  case atStart => exact ⟨a + 1, 0, L, by go_num, rfl, Nat.le_refl _, by omega, by omega, Lib.hid (So.few (by omega)), Lib.hid (Pm.refl _ _ _), H0, Lib.hid (Out.refl _ _)⟩
  case round =>
    clear H0
    obtain ⟨ii, s, M, rfl, rfl, hii, hib, hs5, HSO, HPM, HN, HO⟩ := hrel
    by_cases hs : s < 5
    rotate_left
    · have hs2 : ¬ (s : Int) < 5 := by omega
      have FIN := Lib.hid (show PiPost w base a0 n c a b L (.returned (.bool false)) wr from ⟨false, M, rfl, HPM.out, (fun h => by cases h), HN.out, HO.out⟩)
      go_wp2
      go_ret
      exact FIN.out
    have hs2 : (s : Int) < 5 := by omega
    go_wp2
    go_loopw [7] (fun iv wr => ∃ i : Nat, iv = .int .i64 (i : Int) ∧ a + 1 ≤ i ∧ i ≤ b ∧ Hid (So a i M) ∧ Hid (NumAt wr base a0 n c M) ∧ Hid (NOut a0 w wr)) (fun iv _ => b - (intOf iv).toNat)
    case atStart => exact ⟨ii, rfl, hii, hib, HSO, HN, HO⟩
    case round =>
      clear HSO HN HO
      obtain ⟨i, rfl, hai, hib, HSO, HN, HO⟩ := hrel
      obtain ⟨i1, hi1⟩ : ∃ i1, i1 = i - 1 := ⟨_, rfl⟩
      have HI1 := Lib.hid (show i1 + 1 = i by omega)
      have d1 : (i : Int) - 1 = (i1 : Int) := by omega
      have b1 : i1 < b := by omega
      have b0 : a ≤ i1 := by omega
      clear hi1
      go_wp2_with fail
      go_cut [32] (fun s wx => ∃ q : Bool, s = .bool q ∧ Hid ((q = true → i < b ∧ ¬ (nat_ M i < nat_ M i1)) ∧ (q = false → i < b → nat_ M i < nat_ M i1)) ∧ Hid (NumAt wx base a0 n c M ∧ NOut a0 w wx))
      case first =>
        by_cases hg : i < b
        · have hg2 : (i : Int) < (b : Int) := by omega
          have bi : i < n := by omega
          have bj : i1 < n := by omega
          have bii : (i : Int) < (n : Int) := by omega
          have bji : (i1 : Int) < (n : Int) := by omega
          obtain ⟨x0, xf⟩ := HN.out.get (i := i) bi
          obtain ⟨y0, yf⟩ := HN.out.get (i := i1) bj
          obtain ⟨x, hx⟩ : ∃ x, x = nat_ M (i) := ⟨_, rfl⟩
          obtain ⟨y, hy⟩ : ∃ x, x = nat_ M (i1) := ⟨_, rfl⟩
          rw [← hx] at x0
          rw [← hy] at y0
          obtain ⟨q, hq⟩ : ∃ q, q = decide (x < y) := ⟨_, rfl⟩
          have HLX := Lib.hid (fun W => HLS.out x y W)
          rw [← hq] at HLX
          have HXY := Lib.hid (show (q = false → i < b ∧ ¬ (nat_ M i < nat_ M i1)) ∧ (q = true → i < b → nat_ M i < nat_ M i1) from ⟨fun e => by rw [hq, hx, hy] at e; simp at e; omega, fun e _ => by rw [hq, hx, hy] at e; simp at e; omega⟩)
          clear hx hy hq
          go_quiet ((go_at_call 89; exact Calls.quiet_of_same (HLX.out _)))
          have HN2 := Lib.hid (HN.out.drewN nq)
          have HO2 := Lib.hid (HO.out.trans (out_drewN _ wr nq))
          obtain ⟨W2, hW2⟩ : ∃ X : World, X = wr.drewN nq := ⟨_, rfl⟩
          rw [← hW2] at HN2 HO2
          rw [← hW2]
          clear hW2
          have HF := Lib.hid (show ((!q) = true → i < b ∧ ¬ (nat_ M i < nat_ M i1)) ∧ ((!q) = false → i < b → nat_ M i < nat_ M i1) from by have h := HXY.out; cases q <;> simp at h ⊢ <;> exact h)
          go_wp2_with fail
          go_meet
          case rel => exact ⟨_, rfl, HF, Lib.hid ⟨HN2.out, HO2.out⟩⟩
        · have hg2 : decide ((i : Int) < (b : Int)) = false := by simp; omega
          go_quiet (fail)
          have HN2 := Lib.hid (HN.out.drewN nq)
          have HO2 := Lib.hid (HO.out.trans (out_drewN _ wr nq))
          obtain ⟨W2, hW2⟩ : ∃ X : World, X = wr.drewN nq := ⟨_, rfl⟩
          rw [← hW2] at HN2 HO2
          rw [← hW2]
          clear hW2
          go_wp2_with fail
          go_meet
          case rel => exact ⟨false, rfl, Lib.hid ⟨(fun h => by cases h), fun _ h => absurd h hg⟩, Lib.hid ⟨HN2.out, HO2.out⟩⟩
      case rest =>
        clear HN HO
        obtain ⟨q, rfl, HQ, HW⟩ := hcut
        have HN := Lib.hid HW.out.1
        have HO := Lib.hid HW.out.2
        clear HW
        cases q with
        | true =>
          have HS2 := Lib.hid (HSO.out.more HI1.out (Nat.le_of_not_lt (HQ.out.1 rfl).2))
          have hij2 := (HQ.out.1 rfl).1
          go_wp2
          go_roundw
          case rel => exact ⟨i + 1, by go_num, by omega, by omega, HS2, HN, HO⟩
          case measure => simp [intOf]; omega
        | false =>
          by_cases hE : i = b
          · have hE2 : ((i : Int) == (b : Int)) = true := by simp [hE]
            have FIN := Lib.hid (show PiPost w base a0 n c a b L (.returned (.bool true)) wc from ⟨true, M, rfl, HPM.out, (fun _ => by rw [← hE]; exact HSO.out), HN.out, HO.out⟩)
            clear hE HQ
            go_wp2
            go_ret
            exact FIN.out
          have hE2 : ((i : Int) == (b : Int)) = false := by rw [beq_eq_false_iff_ne]; omega
          have hlt : i < b := by omega
          have hlt2 : (i : Int) < (b : Int) := by omega
          clear hE HQ
          by_cases hF : b < a + 50
          · have hF2 : (b : Int) - (a : Int) < 50 := by omega
            have FIN := Lib.hid (show PiPost w base a0 n c a b L (.returned (.bool false)) wc from ⟨false, M, rfl, HPM.out, (fun h => by cases h), HN.out, HO.out⟩)
            go_wp2
            go_ret
            exact FIN.out
          have hF2 : ¬ (b : Int) - (a : Int) < 50 := by omega
          have i3 : (i : Int) < (n : Int) := by omega
          have i4 : (i1 : Int) < (n : Int) := by omega
          obtain ⟨x0, xf⟩ := HN.out.get (i := i) (by omega)
          obtain ⟨y0, yf⟩ := HN.out.get (i := i1) (by omega)
          obtain ⟨x, hx⟩ : ∃ x, x = nat_ M (i) := ⟨_, rfl⟩
          obtain ⟨y, hy⟩ : ∃ x, x = nat_ M (i1) := ⟨_, rfl⟩
          rw [← hx] at x0
          rw [← hy] at y0
          obtain ⟨v', hv'⟩ := cell?_setCell_some (p := a0.add (i)) (x := .int .u32 (y : Int)) y0
          have hvf : (wc.setCell (a0.add (i)) (.int .u32 (y : Int))).frozen? (a0.add (i1)) = false := by rw [World.frozen?_setCell]; exact yf
          obtain ⟨hs1, hs2⟩ := HN.out.swap (i := i) (j := i1) (x := x) (y := y) (by omega) (by omega) hx hy
          have HNS := Lib.hid hs1
          have HOS := Lib.hid (HO.out.trans hs2)
          have hml : b ≤ M.length := by rw [HN.out.len]; exact hb
          have HPM3 := Lib.hid (HPM.out.trans (Pm.swp (L := M) (a := a) (b := b) (i := i) (j := i1) (by omega) (by omega) (by omega) (by omega) hml))
          have HS3 := Lib.hid (show So a i1 (swp M i i1) from (HSO.out.less (by omega)).swap (by omega) (Nat.le_refl _) (by omega) (by omega))
          obtain ⟨M1, hM1⟩ : ∃ M1, M1 = swp M i i1 := ⟨_, rfl⟩
          rw [← hM1] at HPM3 HS3 HNS
          clear hM1 hs1 hs2 hx hy HN HO HSO HPM hml
          go_wp2_with fail
          go_region
          clear x0 xf y0 yf hv' hvf
          go_upto_if 61 with fail
          go_cut [] (fun wx => Hid (∃ M, So a i M ∧ Pm a b L M ∧ NumAt wx base a0 n c M ∧ NOut a0 w wx))
          case first =>
            by_cases hG : i < a + 2
            · have hG2 : ¬ (2 : Int) ≤ (i : Int) - (a : Int) := by omega
              have FIN := Lib.hid (show So a i M1 from So.few (by omega))
              go_wp2_with fail
              go_meet
              case rel => exact Lib.hid ⟨M1, FIN.out, HPM3.out, HNS.out, HOS.out⟩
            · have hG2 : (2 : Int) ≤ (i : Int) - (a : Int) := by omega
              go_wp2
              go_loopw [9] (fun jv wr => ∃ (j : Nat) (M : List Nat), jv = .int .i64 (j : Int) ∧ a ≤ j ∧ j ≤ i1 ∧ Hid (Ins a i1 j M) ∧ Hid (Pm a b L M) ∧ Hid (NumAt wr base a0 n c M) ∧ Hid (NOut a0 w wr)) (fun jv _ => (intOf jv).toNat)
              case atStart => exact ⟨i1, M1, rfl, by omega, Nat.le_refl _, Lib.hid (Ins.start HS3.out), HPM3, HNS, HOS⟩
              case round =>
                clear HS3 HPM3 HNS HOS
                obtain ⟨j, M, rfl, haj, hji, HIN, HPM, HN, HO⟩ := hrel
                by_cases hj0 : j = 0
                · have hj2 : ¬ (1 : Int) ≤ (j : Int) := by omega
                  have FIN := Lib.hid (show ∃ M, So a i M ∧ Pm a b L M ∧ NumAt wr base a0 n c M ∧ NOut a0 w wr from ⟨M, by rw [← HI1.out]; exact HIN.out.done haj hji (.inl (by omega)), HPM.out, HN.out, HO.out⟩)
                  go_wp2_with fail
                  go_meet
                  case rel => exact FIN
                · have hj2 : (1 : Int) ≤ (j : Int) := by omega
                  obtain ⟨j1, hj1⟩ : ∃ j1, j1 = j - 1 := ⟨_, rfl⟩
                  have HJ1 := Lib.hid (show j1 + 1 = j by omega)
                  have HJ2 := Lib.hid hj1
                  have d2 : (j : Int) - 1 = (j1 : Int) := by omega
                  have c1 : j < n := by omega
                  have c2 : j1 < n := by omega
                  have c3 : (j : Int) < (n : Int) := by omega
                  have c4 : (j1 : Int) < (n : Int) := by omega
                  clear hj1 hj0
                  obtain ⟨x0, xf⟩ := HN.out.get (i := j) c1
                  obtain ⟨y0, yf⟩ := HN.out.get (i := j1) c2
                  obtain ⟨x, hx⟩ : ∃ x, x = nat_ M (j) := ⟨_, rfl⟩
                  obtain ⟨y, hy⟩ : ∃ x, x = nat_ M (j1) := ⟨_, rfl⟩
                  rw [← hx] at x0
                  rw [← hy] at y0
                  obtain ⟨q, hq⟩ : ∃ q, q = decide (x < y) := ⟨_, rfl⟩
                  have HLX := Lib.hid (fun W => HLS.out x y W)
                  rw [← hq] at HLX
                  have HXY := Lib.hid (And.intro hx (And.intro hy hq))
                  clear hx hy hq
                  go_wp2_with fail
                  go_quiet ((go_at_call 89; exact Calls.quiet_of_same (HLX.out _)))
                  have HN2 := Lib.hid (HN.out.drewN nq)
                  have HO2 := Lib.hid (HO.out.trans (out_drewN _ wr nq))
                  obtain ⟨W2, hW2⟩ : ∃ X : World, X = wr.drewN nq := ⟨_, rfl⟩
                  rw [← hW2] at HN2 HO2
                  rw [← hW2]
                  clear hW2
                  clear x0 xf y0 yf
                  cases q with
                  | false =>
                    have FIN := Lib.hid (show ∃ M, So a i M ∧ Pm a b L M ∧ NumAt W2 base a0 n c M ∧ NOut a0 w W2 from ⟨M, by
                      rw [← HI1.out]
                      refine HIN.out.done haj hji (.inr ?_)
                      have h1 := HXY.out.1
                      have h2 := HXY.out.2.1
                      have h3 := of_decide_eq_false HXY.out.2.2.symm
                      rw [← HJ2.out]
                      omega, HPM.out, HN2.out, HO2.out⟩)
                    go_wp2_with fail
                    go_meet
                    case rel => exact FIN
                  | true =>
                    have hlt3 : nat_ M j < nat_ M j1 := by
                      have h1 := HXY.out.1
                      have h2 := HXY.out.2.1
                      have h3 := of_decide_eq_true HXY.out.2.2.symm
                      omega
                    have hja : a < j := by
                      rcases Nat.lt_or_ge a j with h | h
                      · exact h
                      · have e : j = a := by omega
                        subst e
                        have hl := HLO.out.pm HPM.out
                        rcases hl with hl | hl
                        · omega
                        · have := hl j (Nat.le_refl _) hab
                          rw [← HJ2.out] at this
                          omega
                    have hml : b ≤ M.length := by rw [HN2.out.len]; exact hb
                    have HIN2 := Lib.hid (show Ins a i1 j1 (swp M j j1) from by
                      have h1 := HIN.out.step hja hji (by omega) (by rw [← HJ2.out]; exact hlt3)
                      rw [← HJ2.out] at h1
                      exact h1)
                    have HPM2 := Lib.hid (HPM.out.trans (Pm.swp (L := M) (a := a) (b := b) (i := j) (j := j1) (by omega) (by omega) (by omega) (by omega) hml))
                    obtain ⟨x0, xf⟩ := HN2.out.get (i := j) c1
                    obtain ⟨y0, yf⟩ := HN2.out.get (i := j1) c2
                    have hx := HXY.out.1
                    have hy := HXY.out.2.1
                    rw [← hx] at x0
                    rw [← hy] at y0
                    obtain ⟨v', hv'⟩ := cell?_setCell_some (p := a0.add (j)) (x := .int .u32 (y : Int)) y0
                    have hvf : (W2.setCell (a0.add (j)) (.int .u32 (y : Int))).frozen? (a0.add (j1)) = false := by rw [World.frozen?_setCell]; exact yf
                    obtain ⟨hs1, hs2⟩ := HN2.out.swap (i := j) (j := j1) (x := x) (y := y) c1 c2 hx hy
                    have HNS := Lib.hid hs1
                    have HOS := Lib.hid (HO2.out.trans hs2)
                    clear hs1 hs2 hx hy hlt3 hml
                    go_wp2_with fail
                    go_region
                    clear x0 xf y0 yf hv' hvf
                    go_wp2
                    go_roundw
                    case rel => exact ⟨j1, swp M j j1, by go_num, by omega, by omega, HIN2, HPM2, HNS, HOS⟩
                    case measure => simp [intOf]; omega
          case rest =>
            clear HS3 HPM3 HNS HOS
            by_cases hG : b < i + 2
            · have hG2 : ¬ (2 : Int) ≤ (b : Int) - (i : Int) := by omega
              obtain ⟨M5, h1, h2, h3, h4⟩ := hcut.out
              have K1 := Lib.hid h1
              have K2 := Lib.hid h2
              have K3 := Lib.hid h3
              have K4 := Lib.hid h4
              clear h1 h2 h3 h4 hcut
              go_wp2
              go_roundw
              case rel => exact ⟨i, s + 1, M5, rfl, by go_num, by omega, by omega, by omega, K1, K2, K3, K4⟩
              case measure => simp [intOf]; omega
            · have hG2 : (2 : Int) ≤ (b : Int) - (i : Int) := by omega
              go_wp2
              go_loopw [10] (fun jv wr => ∃ (j : Nat) (M : List Nat), jv = .int .i64 (j : Int) ∧ i + 1 ≤ j ∧ j ≤ b ∧ Hid (So a i M) ∧ Hid (Pm a b L M) ∧ Hid (NumAt wr base a0 n c M) ∧ Hid (NOut a0 w wr)) (fun jv _ => b - (intOf jv).toNat)
              case atStart =>
                obtain ⟨M5, h1, h2, h3, h4⟩ := hcut.out
                exact ⟨i + 1, M5, by go_num, Nat.le_refl _, by omega, Lib.hid h1, Lib.hid h2, Lib.hid h3, Lib.hid h4⟩
              case round =>
                clear hcut
                obtain ⟨j, M, rfl, hij, hjb, HSO, HPM, HN, HO⟩ := hrel
                by_cases hjl : j < b
                rotate_left
                · have hj2 : ¬ (j : Int) < (b : Int) := by omega
                  go_wp2
                  go_roundw
                  case rel => exact ⟨i, s + 1, M, rfl, by go_num, by omega, by omega, by omega, HSO, HPM, HN, HO⟩
                  case measure => simp [intOf]; omega
                · have hj2 : (j : Int) < (b : Int) := by omega
                  obtain ⟨j1, hj1⟩ : ∃ j1, j1 = j - 1 := ⟨_, rfl⟩
                  have HJ1 := Lib.hid (show j1 + 1 = j by omega)
                  have d2 : (j : Int) - 1 = (j1 : Int) := by omega
                  have c1 : j < n := by omega
                  have c2 : j1 < n := by omega
                  have c3 : (j : Int) < (n : Int) := by omega
                  have c4 : (j1 : Int) < (n : Int) := by omega
                  clear hj1
                  obtain ⟨x0, xf⟩ := HN.out.get (i := j) c1
                  obtain ⟨y0, yf⟩ := HN.out.get (i := j1) c2
                  obtain ⟨x, hx⟩ : ∃ x, x = nat_ M (j) := ⟨_, rfl⟩
                  obtain ⟨y, hy⟩ : ∃ x, x = nat_ M (j1) := ⟨_, rfl⟩
                  rw [← hx] at x0
                  rw [← hy] at y0
                  obtain ⟨q, hq⟩ : ∃ q, q = decide (x < y) := ⟨_, rfl⟩
                  have HLX := Lib.hid (fun W => HLS.out x y W)
                  rw [← hq] at HLX
                  have HXY := Lib.hid (And.intro hx (And.intro hy hq))
                  clear hx hy hq
                  go_wp2_with fail
                  go_quiet ((go_at_call 89; exact Calls.quiet_of_same (HLX.out _)))
                  have HN2 := Lib.hid (HN.out.drewN nq)
                  have HO2 := Lib.hid (HO.out.trans (out_drewN _ wr nq))
                  obtain ⟨W2, hW2⟩ : ∃ X : World, X = wr.drewN nq := ⟨_, rfl⟩
                  rw [← hW2] at HN2 HO2
                  rw [← hW2]
                  clear hW2
                  clear x0 xf y0 yf
                  cases q with
                  | false =>
                    go_wp2
                    go_roundw
                    case rel => exact ⟨i, s + 1, M, rfl, by go_num, by omega, by omega, by omega, HSO, HPM, HN2, HO2⟩
                    case measure => simp [intOf]; omega
                  | true =>
                    have hml : b ≤ M.length := by rw [HN2.out.len]; exact hb
                    have hjj : j1 + 1 = j := HJ1.out
                    have HSO2 := Lib.hid (show So a i (swp M j j1) from HSO.out.swap (by omega) (by omega) (by omega) (by omega))
                    have HPM2 := Lib.hid (HPM.out.trans (Pm.swp (L := M) (a := a) (b := b) (i := j) (j := j1) (by omega) (by omega) (by omega) (by omega) hml))
                    clear hjj
                    obtain ⟨x0, xf⟩ := HN2.out.get (i := j) c1
                    obtain ⟨y0, yf⟩ := HN2.out.get (i := j1) c2
                    have hx := HXY.out.1
                    have hy := HXY.out.2.1
                    rw [← hx] at x0
                    rw [← hy] at y0
                    obtain ⟨v', hv'⟩ := cell?_setCell_some (p := a0.add (j)) (x := .int .u32 (y : Int)) y0
                    have hvf : (W2.setCell (a0.add (j)) (.int .u32 (y : Int))).frozen? (a0.add (j1)) = false := by rw [World.frozen?_setCell]; exact yf
                    obtain ⟨hs1, hs2⟩ := HN2.out.swap (i := j) (j := j1) (x := x) (y := y) c1 c2 hx hy
                    have HNS := Lib.hid hs1
                    have HOS := Lib.hid (HO2.out.trans hs2)
                    clear hs1 hs2 hx hy hml
                    go_wp2_with fail
                    go_region
                    clear x0 xf y0 yf hv' hvf
                    go_wp2
                    go_roundw
                    case rel => exact ⟨j + 1, swp M j j1, by go_num, by omega, by omega, HSO2, HPM2, HNS, HOS⟩
                    case measure => simp [intOf]; omega
end Go.Proofs.Yteaibgnelnblnaa
end
section
namespace Go.Proofs.Yteaibgnelnblnaa
open Go.RowKit Me Tx Ed Mg Va

def PvPost (w : World) (a b : Nat) (e : Ending) (w' : World) : Prop :=
  ∃ (p : Nat) (hint : Int), e = .returned (.tuple #[.int .i64 (p : Int), .int .i64 hint]) ∧ a ≤ p ∧ p < b ∧ Below w.heap.size w w'
set_option maxRecDepth 100000 in
set_option maxHeartbeats 4000000 in
theorem pivot_any (base : Nat) (a0 : Addr) (n c a b : Nat) (L : List Nat) (w : World) (h : NumAt w base a0 n c L) (hab : a + 12 < b) (hb : b ≤ n) (hn : n ≤ 1000000000) :
    Calls Try.prog 86 #[.slice (some a0) n c, .int .i64 (a : Int), .int .i64 (b : Int)] w (PvPost w a b) := by
  obtain ⟨l, hl⟩ : ∃ l, l = b - a := ⟨_, rfl⟩
  obtain ⟨q, hq⟩ : ∃ q, q = l / 4 := ⟨_, rfl⟩
  obtain ⟨q2, hq2⟩ : ∃ q2, q2 = q * 2 := ⟨_, rfl⟩
  obtain ⟨q3, hq3⟩ : ∃ q3, q3 = q * 3 := ⟨_, rfl⟩
  obtain ⟨i, hi⟩ : ∃ i, i = a + q := ⟨_, rfl⟩
  obtain ⟨j, hj⟩ : ∃ j, j = a + q2 := ⟨_, rfl⟩
  obtain ⟨k, hk⟩ : ∃ k, k = a + q3 := ⟨_, rfl⟩
  have d1 : (b : Int) - (a : Int) = (l : Int) := by omega
  have d2 : Int.tdiv (l : Int) 4 = (q : Int) := by rw [hq]; rfl
  have d3 : (q : Int) * 2 = (q2 : Int) := by omega
  have d4 : (q : Int) * 3 = (q3 : Int) := by omega
  have d5 : (a : Int) + (q : Int) = (i : Int) := by omega
  have d6 : (a : Int) + (q2 : Int) = (j : Int) := by omega
  have d7 : (a : Int) + (q3 : Int) = (k : Int) := by omega
  have e1 : l ≤ 1000000000 := by omega
  have e2 : q ≤ 1000000000 := by omega
  have e3 : q2 ≤ 1000000000 := by omega
  have e4 : q3 ≤ 1000000000 := by omega
  have e5 : a + 3 ≤ i ∧ i + 3 ≤ j ∧ j + 3 ≤ k ∧ k + 3 ≤ b := by omega
  have e6 : (8 : Int) ≤ (l : Int) := by omega
  have E5 := Lib.hid e5
  obtain ⟨g, hg⟩ : ∃ g, g = w.heap.size := ⟨_, rfl⟩
  have hng : ¬ a0.block = g := by have := (h.own.lt a0.block rfl).2; omega
  obtain ⟨w1, hw1⟩ : ∃ w1, w1 = w.alloc (.cells #[.int .i64 0] 3) := ⟨_, rfl⟩
  have hb1 : Below w.heap.size w w1 := by rw [hw1]; exact (Below.refl _ _).alloc (Nat.le_refl _) _
  have HN := Lib.hid (h.past hb1)
  have HC := Lib.hid (show Ctr w1 g from ⟨0, by rw [hw1, hg]; exact Blk.new w [.int .i64 0] _⟩)
  have HO := Lib.hid (Out.refl (fun k => k = g) w1)
  have HB := Lib.hid (show ∀ W, Out (fun k => k = g) w1 W → Below w.heap.size w W from fun W ho => hb1.trans (ho.below (fun k _ e => by rw [e, hg]; exact Nat.le_refl _) hb1.size))
  have HW1 := Lib.hid hw1
  have HGE := Lib.hid hg
  clear h hl hq hq2 hq3 hi hj hk e5 hg hw1 hb1
  have T := fun (z : Int) (m : Nat) (W : World) (hm : a ≤ m ∧ m < b) (hc : Blk W g [.int .i64 z]) (ho : Out (fun k => k = g) w1 W) => (show (∀ hint : Int, PvPost w a b (.returned (.tuple #[.int .i64 (m : Int), .int .i64 hint])) W) from fun hint => ⟨m, hint, rfl, hm.1, hm.2, HB.out W ho⟩)
  go_enter Try.func86, Try.ntmps86
  by_cases h50 : 50 ≤ l
  · have h50i : (50 : Int) ≤ (l : Int) := by omega
    have HM1 := Lib.hid (adjacent_any base a0 n c i g L w1 HN.out (by have := E5.out; omega) (by have := E5.out; omega) hn HC.out hng)
    have TT := Lib.hid T
    clear T
    go_wp2_with fail
    rw [← HW1.out, ← HGE.out]
    refine HM1.out.mono ?_
    rintro e w2 ⟨m1, rfl, hm1, hc2, ho2⟩
    have HO2 := Lib.hid (HO.out.trans ho2)
    have HN2 := Lib.hid (HN.out.out ho2 hng)
    have HM2 := Lib.hid (adjacent_any base a0 n c j g L w2 HN2.out (by have := E5.out; omega) (by have := E5.out; omega) hn hc2 hng)
    clear hc2 ho2 HM1
    go_wp2_with fail
    refine HM2.out.mono ?_
    rintro e w3 ⟨m2, rfl, hm2, hc3, ho3⟩
    have HO3 := Lib.hid (HO2.out.trans ho3)
    have HN3 := Lib.hid (HN2.out.out ho3 hng)
    have HM3 := Lib.hid (adjacent_any base a0 n c k g L w3 HN3.out (by have := E5.out; omega) (by have := E5.out; omega) hn hc3 hng)
    clear hc3 ho3 HM2
    go_wp2_with fail
    refine HM3.out.mono ?_
    rintro e w4 ⟨m3, rfl, hm3, hc4, ho4⟩
    have HO4 := Lib.hid (HO3.out.trans ho4)
    have HN4 := Lib.hid (HN3.out.out ho4 hng)
    have HMM := Lib.hid (show (a ≤ m1 ∧ m1 < b) ∧ (a ≤ m2 ∧ m2 < b) ∧ (a ≤ m3 ∧ m3 < b) by have := E5.out; omega)
    have HM4 := Lib.hid (median_any base a0 n c m1 m2 m3 g L w4 HN4.out (by have := HMM.out; omega) (by have := HMM.out; omega) (by have := HMM.out; omega) hc4 hng)
    clear hc4 ho4 HM3 hm1 hm2 hm3
    go_wp2_with fail
    refine HM4.out.mono ?_
    rintro e w5 ⟨m, rfl, hm, ⟨z, hz⟩, ho5⟩
    have HO5 := Lib.hid (HO4.out.trans ho5)
    have FIN := Lib.hid (TT.out z m w5 (by have := HMM.out; omega) hz HO5.out)
    have c0 := hz.cell (i := 0) rfl
    clear hm hz ho5 HM4
    by_cases hz0 : z = 0
    · subst hz0
      go_wp2
      go_ret2
      exact FIN.out 1
    · have z0 : (z == 0) = false := by rw [beq_eq_false_iff_ne]; exact hz0
      by_cases hz1 : z = 12
      · subst hz1
        go_wp2
        go_ret2
        exact FIN.out 2
      · have z1 : (z == 12) = false := by rw [beq_eq_false_iff_ne]; exact hz1
        clear hz0 hz1
        go_wp2
        go_ret2
        exact FIN.out 0
  · have h50i : ¬ (50 : Int) ≤ (l : Int) := by omega
    have HM4 := Lib.hid (median_any base a0 n c i j k g L w1 HN.out (by have := E5.out; omega) (by have := E5.out; omega) (by have := E5.out; omega) HC.out hng)
    have TT := Lib.hid T
    clear T
    go_wp2_with fail
    rw [← HW1.out, ← HGE.out]
    refine HM4.out.mono ?_
    rintro e w5 ⟨m, rfl, hm, ⟨z, hz⟩, ho5⟩
    have HO5 := Lib.hid (HO.out.trans ho5)
    have FIN := Lib.hid (TT.out z m w5 (by have := E5.out; omega) hz HO5.out)
    have c0 := hz.cell (i := 0) rfl
    clear hm hz ho5 HM4
    by_cases hz0 : z = 0
    · subst hz0
      go_wp2
      go_ret2
      exact FIN.out 1
    · have z0 : (z == 0) = false := by rw [beq_eq_false_iff_ne]; exact hz0
      by_cases hz1 : z = 12
      · subst hz1
        go_wp2
        go_ret2
        exact FIN.out 2
      · have z1 : (z == 12) = false := by rw [beq_eq_false_iff_ne]; exact hz1
        clear hz0 hz1
        go_wp2
        go_ret2
        exact FIN.out 0
end Go.Proofs.Yteaibgnelnblnaa
end
