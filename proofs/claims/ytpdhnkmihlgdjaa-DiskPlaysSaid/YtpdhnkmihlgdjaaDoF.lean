/- A read of the law's. -/
import Derived.Test.YtpdhnkmihlgdjaaDoA
namespace Go.Proofs.Ytpdhnkmihlgdjaa
open Go.RowKit Me Rw Ds

def laG9 (H : Nat) (v : Value) : Gw.Fact := fun t u _ =>
  match t with
  | 6 | 23 | 59 => u = .bool true
  | 4 => u = .pointer (some ⟨H, 0, none⟩)
  | 60 => u = v
  | 7 => u = .pointer (some ⟨H + 1 + 1, 0, none⟩)
  | _ => True
set_option maxRecDepth 100000 in
set_option maxHeartbeats 4000000 in
theorem does_read {own : Nat → Prop} {w : World} {B D : Nat} {S : Dsk} {m : RefM} {Am Aw : Option Addr} {nm cm nw cw : Nat} (hd : DiskAt w B D S own) (hr : RefAt w own m Am cm Aw cw) (hm : m.made.length = nm) (hw : m.wait.length = nw) (hR : Rel S m) {kk : Nat} (hs : Small S m kk) (hkk : kk ≤ 1000) (ki i n : Int) (c : UInt8) (sh : Bool) (K T : Nat) (h0 : (ki == 0) = false) (h1 : (ki == 1) = false) (h2 : (ki == 2) = false) (h3 : (ki == 3) = false) (h4 : (ki == 4) = false) (h5 : (ki == 5) = false) :
    Calls Try.prog 10 #[.pointer (some ⟨D, 0, none⟩), .agg #[.int .i64 (m.count : Int), .bool m.off, .int .i64 m.fuse, .slice Am nm cm, .slice Aw nw cw], .agg #[.int .i64 ki, .int .i64 i, .int .i64 n, .int .u8 (c.toNat : Int), .bool sh, .int .u64 (K : Int), .int .u64 (T : Int)]] w (DoesPost w B D own S m) := by
  obtain ⟨H, hH⟩ : ∃ H, w.heap.size = H := ⟨_, rfl⟩
  obtain ⟨mc, hmc⟩ : ∃ mc, (m.count : Int) = mc := ⟨_, rfl⟩
  obtain ⟨mo, hmo⟩ : ∃ mo, m.off = mo := ⟨_, rfl⟩
  obtain ⟨mf, hmf⟩ : ∃ mf, m.fuse = mf := ⟨_, rfl⟩
  rw [hmc, hmo, hmf]
  have HMV := Lib.hid (And.intro hmc (And.intro hmo hmf))
  obtain ⟨W3, hW3⟩ : ∃ W3, ((w.alloc (.cells #[.int .i64 mc, .bool mo, .int .i64 mf, .slice Am nm cm, .slice Aw nw cw] 30)).alloc (.cells #[.int .i64 ki, .int .i64 i, .int .i64 n, .int .u8 (c.toNat : Int), .bool sh, .int .u64 (K : Int), .int .u64 (T : Int)] 36)).alloc (.cells #[.int .i64 0, .bool false, .int .i64 0, .slice none 0 0, .slice none 0 0] 30) = W3 := ⟨_, rfl⟩
  have hsz : W3.heap.size = H + 3 := by rw [← hW3, ← hH]; simp
  have hB0 : Blk W3 H [.int .i64 mc, .bool mo, .int .i64 mf, .slice Am nm cm, .slice Aw nw cw] := by
    rw [← hW3, ← hH]; exact ((Blk.new w _ _).alloc _).alloc _
  have hB1 : Blk W3 (H + 1) [.int .i64 ki, .int .i64 i, .int .i64 n, .int .u8 (c.toNat : Int), .bool sh, .int .u64 (K : Int), .int .u64 (T : Int)] := by
    rw [← hW3, ← hH]; exact (Blk.new' _ [.int .i64 ki, .int .i64 i, .int .i64 n, .int .u8 (c.toNat : Int), .bool sh, .int .u64 (K : Int), .int .u64 (T : Int)] 36 (H := w.heap.size + 1) (by simp)).alloc _
  have hB2 : Blk W3 (H + 1 + 1) [.int .i64 0, .bool false, .int .i64 0, .slice none 0 0, .slice none 0 0] := by
    rw [← hW3, ← hH]; exact Blk.new' _ [.int .i64 0, .bool false, .int .i64 0, .slice none 0 0, .slice none 0 0] 30 (H := w.heap.size + 1 + 1) (by simp)
  have hb3 : Below w.heap.size w W3 := by
    rw [← hW3]; exact (((Below.refl _ w).alloc (Nat.le_refl _) _).alloc (by simp) _).alloc (by simp; omega) _
  have hd3 := hd.past hb3
  have a0 : W3.cell? ⟨H + 1, 0, none⟩ = some (.int .i64 ki) := hB1.cell rfl
  have hc8 := c.toNat_lt
  have hlt : ∀ j, own j → j < H := fun j hj => by have := (hd.lt hj).2; omega
  have HF := Lib.hid (And.intro hB0 (And.intro hB1 (And.intro hB2 hb3)))
  have HD := Lib.hid (And.intro hd (And.intro hr (And.intro hm (And.intro hw (And.intro hR hs)))))
  have HLT := Lib.hid hlt
  have HD3 := Lib.hid hd3
  obtain ⟨Q, hQ⟩ : ∃ Q, Q = DoesPost w B D own S m := ⟨_, rfl⟩
  rw [← hQ]
  have HQ := Lib.hid hQ
  clear hd hr hm hw hR hs hB0 hB1 hB2 hb3 hd3 hQ hlt hmc hmo hmf
  have hre := rel_readE HD.out.2.2.2.2.1 i
  have hrr := rel_read HD.out.2.2.2.2.1 i
  have hln : (readD S i).length ≤ 128 := by
    unfold readD
    split
    · rename_i e
      have hb : hasB S.stored.length i = true := by
        unfold readE at e
        cases ho : S.on <;> rw [ho] at e <;> cases hh : hasB S.stored.length i <;> rw [hh] at e <;> simp at e ⊢
      obtain ⟨k, rfl, hk⟩ := hasB_true hb
      rw [Int.toNat_natCast, latestD_length HD.out.2.2.2.2.1.good hk]
      omega
    · simp
  obtain ⟨x, hx⟩ : ∃ x, readE S i = x := ⟨_, rfl⟩
  obtain ⟨l, hl⟩ : ∃ l, readD S i = l := ⟨_, rfl⟩
  rw [hx] at hre
  rw [hl] at hrr hln
  have HX := Lib.hid (And.intro hx hl)
  have HXR := Lib.hid (And.intro hre hrr)
  have a1 : W3.cell? ⟨H + 1, 1, none⟩ = some (.int .i64 i) := HF.out.2.1.cell rfl
  clear hx hl hre hrr
  go_enter Try.func10, Try.ntmps10
  go_wp2_with fail
  refine (read_any HD3.out i (by have := HD.out.2.2.2.2.2.pend; omega)).mono ?_
  rw [HX.out.1, HX.out.2]
  rintro e w4 ⟨hb4, A, n4, rfl, hn4, hA⟩
  have h34 := hb4.size
  have hk1 := HF.out.2.1.past hb4
  have b1 : w4.cell? ⟨H + 1, 1, none⟩ = some (.int .i64 i) := hk1.cell rfl
  obtain ⟨k0, k1, k2, k3, k4⟩ := (HF.out.1.past hb4).five
  have HB34 := Lib.hid hb4
  have HB4 := Lib.hid (HF.out.2.2.2.trans (hb4.mono (by omega)))
  have HRd := Lib.hid (show Rd w4 w4.heap.size A l from fun hp => by
    obtain ⟨b, rfl, -, hbk⟩ := hA (by omega)
    exact ⟨_, rfl, hbk.lt, fun j u hu => by rw [Addr.add_mid, Nat.zero_add]; exact hbk.cell (cellsOf_get hu)⟩)
  have HWr := Lib.hid (show 0 < n4 → ∃ b, A = some ⟨b, 0, none⟩ ∧ W3.heap.size ≤ b ∧ b < w4.heap.size ∧ Wr w4 b n4 from fun hp => by
    obtain ⟨b, rfl, hb, hbk⟩ := hA hp
    have := Wr.blk hbk
    rw [cellsOf_length, hn4] at this
    exact ⟨b, rfl, hb, hbk.lt, this⟩)
  have HLN := Lib.hid hn4
  have hn8 : n4 ≤ 128 := by omega
  have HB7 := Lib.hid (show ∃ cs, Blk w4 (w.heap.size + 1) cs ∧ cs.length = 7 from ⟨_, by rw [hH]; exact hk1, rfl⟩)
  clear hb4 hn4 hA hk1 hln
  go_wp2_with fail
  have hc := rread_any (own := own) (w := w4) (HD.out.2.1.past HB4.out) HD.out.2.2.1 HD.out.2.2.2.1 (by have := HD.out.2.2.2.2.2.made; have := HD.out.2.2.1; have := HD.out.2.2.2.1; omega) (by have := HD.out.2.2.2.2.2.made; have := HD.out.2.2.1; have := HD.out.2.2.2.1; omega) i
  rw [HMV.out.1, HMV.out.2.1, HMV.out.2.2, HXR.out.1, HXR.out.2] at hc
  refine hc.mono ?_
  clear hc
  rintro e w5 ⟨rfl, hb5⟩
  have h45 := hb5.size
  have HB5 := Lib.hid hb5
  clear hb5 k0 k1 k2 k3 k4 a0 a1 b1
  have HB46 := HB5
  have hb56 := Below.refl w5.heap.size w5
  obtain ⟨w6, hw6⟩ : ∃ w6, w6 = w5 := ⟨_, rfl⟩
  subst hw6
  have h56 := hb56.size
  have e1 := str_any A n4 n4 l w6 _ HLN.out (HRd.out.below HB5.out)
  clear hb56
  have HW6 := Lib.hid (show ∀ b, 0 < n4 → A = some ⟨b, 0, none⟩ → Wr w6 b n4 from fun b hp hAb => by
    obtain ⟨b', h1, -, h3, h4⟩ := HWr.out hp
    rw [hAb] at h1
    injection h1 with h1
    injection h1 with h1
    subst h1
    exact h4.out (T := fun _ => False) (.of_below HB46.out) h3 (fun h => h))
  have HK0 := Lib.hid ((HF.out.1.past HB34.out).past HB46.out)
  have HK2 := Lib.hid ((HF.out.2.2.1.past HB34.out).past HB46.out)
  go_wp2_with fail
  clear e1
  go_loopw [24] (fun iv wr => ∃ k : Nat, k ≤ n4 ∧ iv = .int .i64 k ∧ Hid (Out (fun j => 0 < n4 ∧ A = some ⟨j, 0, none⟩) w6 wr) ∧ Hid (∀ b, 0 < n4 → A = some ⟨b, 0, none⟩ → Wr wr b n4)) (fun iv _ => n4 - (intOf iv).toNat)
  case atStart => exact ⟨0, Nat.zero_le _, rfl, Lib.hid (Out.refl _ _), HW6⟩
  rotate_left
  obtain ⟨k, hk, rfl, HOW, HWK⟩ := hrel
  by_cases hlt : k < n4
  · obtain ⟨b, rfl, -, -, -⟩ := HWr.out (by omega)
    obtain ⟨⟨u, z0⟩, f0⟩ := HWK.out b (by omega) rfl k hlt
    have HN := Lib.hid (HOW.out.setCell (p := ⟨b, k, none⟩) (.inl ⟨by omega, rfl⟩) (.int .u8 99))
    have HN2 := Lib.hid (show ∀ b', 0 < n4 → some (⟨b, 0, none⟩ : Addr) = some ⟨b', 0, none⟩ → Wr (wr.setCell ⟨b, k, none⟩ (.int .u8 99)) b' n4 from fun b' hp hAb => by
      injection hAb with h1
      injection h1 with h1
      subst h1
      exact (HWK.out b hp rfl).set hlt _)
    go_wp2
    go_roundw
    case rel => exact ⟨k + 1, by omega, by go_num, HN, HN2⟩
    case measure => simp [intOf]; omega
  have hkn : k = n4 := by omega
  subst hkn
  have HTb := Lib.hid (show ∀ j, (0 < k ∧ A = some ⟨j, 0, none⟩) → W3.heap.size ≤ j ∧ j < w4.heap.size from fun j hj => by
    obtain ⟨b', h1, h2, h3, -⟩ := HWr.out hj.1
    rw [hj.2] at h1
    injection h1 with h1
    injection h1 with h1
    omega)
  have HW0 := Lib.hid (HK0.out.out HOW.out (fun h => by have := HTb.out _ h; omega))
  have HW2 := Lib.hid (HK2.out.out HOW.out (fun h => by have := HTb.out _ h; omega))
  obtain ⟨p0, p1, p2, p3, p4⟩ := HW0.out.five
  go_wp2_with fail
  refine Gw.wp_region_phase (fun _ _ => True) (fun _ => trivial) (fun _ _ _ _ _ => trivial) (fun p W => if p = 0 then W = wr.drew else Blk W (H + 1 + 1) [.int .i64 mc, .bool mo, .int .i64 mf, .slice Am nm cm, .slice Aw nw cw] ∧ Out (fun j => j = H + 1 + 1) wr W) (laG9 H (.agg #[.int .i64 mc, .bool mo, .int .i64 mf, .slice Am nm cm, .slice Aw nw cw])) [3] [59, 60, 6] [([23], none, [0], false), ([4], none, [0], false), ([59], none, [0], false), ([7, 60], none, [0], true)] 162 1 (by kernel_rfl) (by kernel_rfl) rfl trivial (by simp) ?g0 ?greq ?gend
  case g0 =>
    intro t W hnd _
    unfold laG9
    split <;> first | rfl | trivial | exact absurd (by simp) hnd
  case greq =>
    refine ⟨⟨?_, trivial⟩, ⟨?_, trivial⟩, ⟨?_, trivial⟩, ⟨?_, trivial⟩, trivial⟩
    all_goals
      intro ac W _ hI hk
      rw [if_pos rfl] at hI
      subst hI
      simp only [Gw.Knows, laG9] at hk
      try (simp [go_sem, Gw.POpReq, Gw.OkP, Gw.PPost, Gw.HoldsR, laG9, hk, p0, p1, p2, p3, p4]; done)
    obtain ⟨hk1, hk2, -⟩ := hk
    obtain ⟨w', hrun, h2, h3⟩ := run_store_blk (P := Try.prog) (w := wr.drew) (b := H + 1 + 1) (ty := 30) (vs := #[.int .i64 mc, .bool mo, .int .i64 mf, .slice Am nm cm, .slice Aw nw cw]) HW2.out.drew rfl d_size (d_one _ _ _ _ _ _ _ _ _)
    exact Gw.ok_store rfl ((Gw.eval_slot ac 7).trans hk1) ((Gw.eval_slot ac 60).trans hk2) hrun ⟨trivial, ⟨h2, (out_drew _ _).trans h3⟩, trivial⟩
  case gend =>
    intro x' wF _ hI hx
    rw [if_neg (by simp)] at hI
    have h6 : x' 6 = .bool true := (hx 6 (by simp)) wF trivial
    have HI := Lib.hid hI
    clear hx hI
    simp only [Gw.putAll, Act.put, List.setIfInBounds_toArray, List.set_cons_zero, List.set_cons_succ]
    rw [h6]
    go_wp2
    obtain ⟨r0, r1, r2, r3, r4⟩ := HI.out.1.five
    refine bodyPost_ret (v := .tuple #[.bool true, .agg #[.int .i64 mc, .bool mo, .int .i64 mf, .slice Am nm cm, .slice Aw nw cw]]) (by simp [results, Try.results10, go_sem, r0, r1, r2, r3, r4]) rfl ?_
    rw [HQ.out]
    exact does_fin (h3 := by omega) (hb7 := HB7.out) (h7 := fun h => by
      rcases h with h | h
      · have := HTb.out _ h; omega
      · omega) (own6 := fun j => own j ∨ (w.heap.size ≤ j ∧ j < w4.heap.size)) (T := fun j => (0 < k ∧ A = some ⟨j, 0, none⟩) ∨ j = H + 1 + 1) (HD.out.1.past HB4.out) (fun j hj => .inl hj) (.of_below HB4.out) (fun _ => Iff.rfl) HB46.out ((show RVal w own m (.agg #[.int .i64 mc, .bool mo, .int .i64 mf, .slice Am nm cm, .slice Aw nw cw]) from ⟨Am, nm, cm, Aw, nw, cw, by simp only [HMV.out.1, HMV.out.2.1, HMV.out.2.2], HD.out.2.2.1, HD.out.2.2.2.1, HD.out.2.1⟩).less (fun j hj ho => by
      rcases ho with h | h
      · exact h
      · omega) |>.past HB4.out |>.past HB46.out) ((HOW.out.more fun j _ h => .inl h).trans (HI.out.2.more fun j _ h => .inr h)) (fun j hj => by
      rcases hj with h | h
      · have h7 := HTb.out j h
        exact ⟨by omega, by omega, fun ho => by have := HLT.out j ho; omega⟩
      · exact ⟨by omega, by omega, fun ho => by have := HLT.out j ho; omega⟩)
end Go.Proofs.Ytpdhnkmihlgdjaa
