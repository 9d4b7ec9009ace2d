/- palmerref12.Read: the document's edges of a text. -/
import Derived.Test.YtbedepnmgnlijaaDoorEdL
import Derived.Test.YtbedepnmgnlijaaDoorEdR
namespace Go.Proofs.YtbedepnmgnlijaaDoor
open Go.RowKit Me Tx Ed Go.Shelf Go.Lib

/-- What stands between the rounds: the edges so far, the lines. -/
structure KeI (w wr : World) (B N c : Nat) (A : Option Addr) (ls : List (List UInt8)) (acc : List EdD) (v : Value) : Prop where
  o : wr.ownsRow w.heap.size 25 3 v acc.length (edCells acc)
  l : wr.ownsRow B 9 1 (.slice A N c) N (ls.map sv)
  f : ∀ p ∈ acc, Fits p
  b : Below w.heap.size w wr
theorem KeI.past {w wr w' : World} {B N c : Nat} {A : Option Addr} {ls : List (List UInt8)} {acc : List EdD} {v : Value} (h : KeI w wr B N c A ls acc v) (hb : Below wr.heap.size wr w') : KeI w w' B N c A ls acc v :=
  ⟨own_below' h.o hb, own_below' h.l hb, h.f, h.b.trans (hb.mono h.b.size)⟩
theorem KeI.alloc {w wr : World} {B N c : Nat} {A : Option Addr} {ls : List (List UInt8)} {acc : List EdD} {v : Value} (h : KeI w wr B N c A ls acc v) (o : Obj) : KeI w (wr.alloc o) B N c A ls acc v := h.past ((Below.refl _ wr).alloc (Nat.le_refl _) o)
theorem KeI.app {w wr w' : World} {B N c : Nat} {A : Option Addr} {ls : List (List UInt8)} {acc : List EdD} {v v' : Value} {e0 : EdD} (h : KeI w wr B N c A ls acc v) (ho : w'.ownsRow w.heap.size 25 3 v' (acc.length + 1) (edCells acc ++ [.int .u32 (e0.src : Int), .int .u32 (e0.dst : Int), .int .u32 (e0.wgt : Int)])) (hg : wr.grownBy w' v.ownBlock) (hf : Fits e0) : KeI w w' B N c A ls (acc ++ [e0]) v' :=
  ⟨by rw [List.length_append, edCells_snoc]; exact ho, own_other h.l h.o (by decide) hg, fun p hp => by
    rcases List.mem_append.1 hp with hp | hp
    · exact h.f p hp
    · rw [List.mem_singleton.1 hp]; exact hf, h.b.grown hg h.b.size fun k e => (h.o.lt k e).1⟩

set_option maxRecDepth 100000 in
set_option maxHeartbeats 2000000 in
theorem rread_any (A : Option Addr) (n c : Nat) (b : List UInt8) (hb : b.length = n) (hn : n ≤ 1000000) (w : World) (hr : Rd w w.heap.size A b) :
    Calls Tryd.prog 13 #[.slice A n c] w (ReadPost w (readG 0 [] (linesG [] b))) := by
  obtain ⟨i0, hi0, hzz0, hzz1, hzz2⟩ := info_parts ed_info
  obtain ⟨ls, hls⟩ : ∃ ls, ls = linesG [] b := ⟨_, rfl⟩
  obtain ⟨N, hN⟩ : ∃ N, N = ls.length := ⟨_, rfl⟩
  obtain ⟨R, hR⟩ : ∃ R, R = readG 0 [] ls := ⟨_, rfl⟩
  have hN30 : N ≤ 1000001 := by
    have := linesG_length b []
    rw [← hls, ← hN, hb] at this
    omega
  have hshort : ∀ x ∈ ls, x.length ≤ 1073741824 := fun x hx => by
    rw [hls] at hx
    have := linesG_short b [] x hx
    rw [hb] at this
    simp at this; omega
  have hb0 : Below w.heap.size w (w.alloc (.cells #[] 25)) := (Below.refl _ w).alloc (Nat.le_refl _) _
  have ho0 : (w.alloc (.cells #[] 25)).ownsRow w.heap.size 25 3 (.slice (some ⟨w.heap.size, 0, none⟩) 0 0) 0 (edCells []) := by
    have := World.ownsRow_lit (base := w.heap.size) (e := 25) (size := 3) w #[] 0 (Nat.le_refl _) (by unfold maxLen; omega) rfl
    simpa [edCells] using this
  have HR := Lib.hid ((hr.below hb0).more hb0.size)
  have HB0 := Lib.hid (And.intro hb0 ho0)
  have HL := Lib.hid hb
  have HLS := Lib.hid hls
  have HN := Lib.hid hN
  have HRR := Lib.hid hR
  have HSH := Lib.hid hshort
  rw [← hls, ← hR]
  clear hls hN hR hshort hb0 ho0 hb hr
  go_enter Tryd.func13, Tryd.ntmps13
  go_wp2_with fail
  refine (rlines_post A n c b HL.out (by omega) _ HR.out).mono ?_
  rw [← HLS.out]
  rintro e w1 ⟨A1, c1, rfl, hc1, ho1, hb1⟩
  rw [← HN.out] at hc1 ho1
  rw [← HN.out]
  have HI := Lib.hid (show KeI w w1 (w.alloc (.cells #[] 25)).heap.size N c1 A1 ls [] (.slice (some ⟨w.heap.size, 0, none⟩) 0 0) from
    ⟨own_below' HB0.out.2 hb1, ho1, fun p hp => by simp at hp, HB0.out.1.trans (hb1.mono HB0.out.1.size)⟩)
  obtain ⟨B, hB⟩ : ∃ B, (w.alloc (.cells #[] 25)).heap.size = B := ⟨_, rfl⟩
  rw [hB] at HI
  have HG := Lib.hid (show R = readG 0 [] (ls.drop 0) from HRR.out)
  have HZ := Lib.hid (show ([] : List EdD).length ≤ 0 from Nat.le_refl _)
  clear ho1 hb1 hc1 hB HB0 HRR
  go_wp2
  go_loopw [5, 16] (fun v i wr => ∃ (k : Nat) (acc : List EdD), i = .int .i64 (k : Int) ∧ k ≤ N ∧ Hid (acc.length ≤ k) ∧ Hid (R = readG k acc (ls.drop k)) ∧ Hid (KeI w wr B N c1 A1 ls acc v)) (fun _ i _ => (N - intOf i).toNat)
  case atStart => exact ⟨0, [], rfl, Nat.zero_le _, HZ, HG, HI⟩
  case round =>
    clear HI HG HZ
    obtain ⟨k, acc, rfl, hk, HK, HG, HI⟩ := hrel
    by_cases hkn : k < N
    · obtain ⟨y, hy⟩ : ∃ y, ls[k]? = some y := ⟨_, List.getElem?_eq_getElem (by rw [← HN.out]; exact hkn)⟩
      have hy2 : (ls.map sv)[k]? = some (sv y) := by rw [List.getElem?_map, hy]; rfl
      obtain ⟨a, e, -, qq⟩ := (Cs.of_own HI.out.l) (by rw [List.length_map, ← HN.out]; omega)
      subst e
      have y0 := qq k _ hy2
      have hd : ls.drop k = y :: ls.drop (k + 1) := by
        have hlt : k < ls.length := by rw [← HN.out]; exact hkn
        rw [List.drop_eq_getElem_cons hlt]
        rw [List.getElem?_eq_getElem hlt] at hy
        injection hy with hy
        rw [hy]
      have HY := Lib.hid (HSH.out y (List.mem_of_getElem? hy))
      have HG2 := Lib.hid (show R = readG k acc (y :: ls.drop (k + 1)) by rw [HG.out, hd])
      clear hy hy2 qq hd HG
      go_wp2_with fail
      refine (rone_any ⟨y.toArray⟩ (by exact HY.out) wr).mono ?_
      obtain ⟨⟨e0, is, er⟩, hr⟩ : ∃ r, r = oneS (⟨y.toArray⟩ : ByteArray).data.toList := ⟨_, rfl⟩
      have hr2 : oneS y = (e0, is, er) := hr.symm
      have hfit : Fits e0 := by have := oneS_fits y; rw [hr2] at this; exact this
      rw [← hr]
      rintro e w3 ⟨rfl, hb3⟩
      have HR2 := Lib.hid hr2
      have HFI := Lib.hid hfit
      have HI3 := Lib.hid (HI.out.past hb3)
      clear hr hr2 hfit hb3 HI y0
      have ew : wrap64 ((k : Int) + 1) = (k : Int) + 1 := by unfold wrap64; omega
      by_cases her : er = 0
      · subst her
        cases his : is with
        | false =>
          subst his
          have HG3 := Lib.hid (show R = readG (k + 1) acc (ls.drop (k + 1)) by rw [HG2.out, readG_no (by rw [HR2.out]) (by rw [HR2.out])])
          have HI4 := Lib.hid (HI3.out.alloc (.cells #[.int .u32 (e0.src : Int), .int .u32 (e0.dst : Int), .int .u32 (e0.wgt : Int)] 25))
          have HK3 := Lib.hid (show acc.length ≤ k + 1 by have := HK.out; omega)
          go_wp2
          go_roundw
          case rel => exact ⟨k + 1, acc, by first | rfl | (congr 1), by omega, HK3, HG3, HI4⟩
          case measure => simp [intOf]; omega
        | true =>
          subst his
          have hm1 : acc.length + 1 ≤ maxLen := by have := HK.out; unfold maxLen; omega
          have hm2 : (acc.length + 1) * 12 ≤ 140737488355328 := by have := HK.out; omega
          have HB3 := Lib.hid HI3.out.b.size
          go_wp2_with (at_builtin
                       go_loud (refine wpList_append_own _ rfl (.tmp 35) (.tmp 37) 33 rfl w.heap.size 25 i0 _ 3 12 Tryd.underlying33 hi0 hzz0 hzz1 hzz2 rfl (by decide) _ acc.length _ rfl ((HI3.out.o.alloc _).alloc _) ⟨w3.heap.size + 1, 0, none⟩ 1 1 [.int .u32 (e0.src : Int), .int .u32 (e0.dst : Int), .int .u32 (e0.wgt : Int)] rfl rfl (one_ed (by simp)) ed_one_cells hm1 hm2 (by have := HB3.out; simp; omega) ?_)
                       intro v5 w5 hown5 hg5 hnil5)
          have hg6 := hg5
          have HI5 := Lib.hid (((HI3.out.alloc (.cells #[.int .u32 (e0.src : Int), .int .u32 (e0.dst : Int), .int .u32 (e0.wgt : Int)] 25)).alloc (.cells #[.int .u32 (e0.src : Int), .int .u32 (e0.dst : Int), .int .u32 (e0.wgt : Int)] 25)).app hown5 hg5 HFI.out)
          have HG5 := Lib.hid (show R = readG (k + 1) (acc ++ [e0]) (ls.drop (k + 1)) by rw [HG2.out, readG_one (by rw [HR2.out]) (by rw [HR2.out]), HR2.out])
          have HK5 := Lib.hid (show (acc ++ [e0]).length ≤ k + 1 by have := HK.out; simp; omega)
          clear hown5 hg5 hg6 hnil5 HG2 HI3
          refine ⟨⟨k + 1, acc ++ [e0], by first | rfl | (congr 1), by omega, HK5, HG5, HI5⟩, ?_⟩
          simp [intOf]; omega
      · have her2 : (er == 0) = false := beq_eq_false_iff_ne.2 her
        have HP := Lib.hid (show R = ([], k + 1, er) by rw [HG2.out, readG_bad (by rw [HR2.out]; exact her), HR2.out])
        have HBB := Lib.hid HI3.out.b
        clear HI3 HG2
        have ew2 : IntKind.i64.wrap ((k : Int) + 1) = (k : Int) + 1 := IntWalk.i64_in _ (by omega)
        go_wp2
        refine bodyPost_ret (v := .tuple #[.slice (some ⟨w3.heap.size + 1, 0, none⟩) 0 0, .int .i64 ((k + 1 : Nat) : Int), .int .i64 er]) (by simp [results, Tryd.results13, go_sem]) rfl ?_
        rw [HP.out]
        exact ⟨_, 0, rfl, Nat.le_refl _, Eds.empty, (HBB.out.alloc HBB.out.size _).alloc (by have := HBB.out.size; simp; omega) _⟩
    · have hkk : k = N := by omega
      have HP := Lib.hid (show R = (acc, 0, 0) by rw [HG.out, List.drop_of_length_le (by rw [← HN.out]; omega), readG_nil])
      obtain ⟨A5, c5, hv, hc5⟩ := own_slice' HI.out.o
      subst hv
      go_wp2
      refine bodyPost_ret (v := .tuple #[.slice A5 acc.length c5, .int .i64 0, .int .i64 0]) (by simp [results, Tryd.results13, go_sem]) rfl ?_
      rw [HP.out]
      exact ⟨A5, c5, rfl, hc5, Eds.of_own HI.out.o HI.out.f, HI.out.b⟩
end Go.Proofs.YtbedepnmgnlijaaDoor
