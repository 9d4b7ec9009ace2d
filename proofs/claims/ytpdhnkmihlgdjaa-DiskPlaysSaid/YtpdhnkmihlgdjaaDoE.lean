/- A fuse set, the power cut, a fall: of the law's. -/
import Derived.Test.YtpdhnkmihlgdjaaDoA
namespace Go.Proofs.Ytpdhnkmihlgdjaa
open Go.RowKit Me Rw Ds

def laG6 (H : Nat) (v : Value) : Gw.Fact := fun t u _ =>
  match t with
  | 6 => u = .bool true
  | 4 => u = .pointer (some ⟨H, 0, none⟩)
  | 161 => u = v
  | 7 => u = .pointer (some ⟨H + 1 + 1, 0, none⟩)
  | _ => True
set_option maxRecDepth 100000 in
set_option maxHeartbeats 4000000 in
theorem does_fuse {own : Nat → Prop} {w : World} {B D : Nat} {S : Dsk} {m : RefM} {Am Aw : Option Addr} {nm cm nw cw : Nat} (hd : DiskAt w B D S own) (hr : RefAt w own m Am cm Aw cw) (hm : m.made.length = nm) (hw : m.wait.length = nw) (hR : Rel S m) {kk : Nat} (hs : Small S m kk) (i n : Int) (c : UInt8) (sh : Bool) (K T : Nat) (hn : n ≤ 9223372036854775807) (M' : RefM) (hM' : M' = { m with fuse := n }) :
    Calls Try.prog 10 #[.pointer (some ⟨D, 0, none⟩), .agg #[.int .i64 (m.count : Int), .bool m.off, .int .i64 m.fuse, .slice Am nm cm, .slice Aw nw cw], .agg #[.int .i64 2, .int .i64 i, .int .i64 n, .int .u8 (c.toNat : Int), .bool sh, .int .u64 (K : Int), .int .u64 (T : Int)]] w (DoesPost w B D own { S with fuse := max n (-1) } M') := by
  obtain ⟨H, hH⟩ : ∃ H, w.heap.size = H := ⟨_, rfl⟩
  obtain ⟨mc, hmc⟩ : ∃ mc, (m.count : Int) = mc := ⟨_, rfl⟩
  obtain ⟨mo, hmo⟩ : ∃ mo, m.off = mo := ⟨_, rfl⟩
  obtain ⟨mf, hmf⟩ : ∃ mf, m.fuse = mf := ⟨_, rfl⟩
  rw [hmc, hmo, hmf]
  have HMV := Lib.hid (And.intro hmc (And.intro hmo hmf))
  obtain ⟨W3, hW3⟩ : ∃ W3, ((w.alloc (.cells #[.int .i64 mc, .bool mo, .int .i64 mf, .slice Am nm cm, .slice Aw nw cw] 30)).alloc (.cells #[.int .i64 2, .int .i64 i, .int .i64 n, .int .u8 (c.toNat : Int), .bool sh, .int .u64 (K : Int), .int .u64 (T : Int)] 36)).alloc (.cells #[.int .i64 0, .bool false, .int .i64 0, .slice none 0 0, .slice none 0 0] 30) = W3 := ⟨_, rfl⟩
  have hsz : W3.heap.size = H + 3 := by rw [← hW3, ← hH]; simp
  have hB0 : Blk W3 H [.int .i64 mc, .bool mo, .int .i64 mf, .slice Am nm cm, .slice Aw nw cw] := by
    rw [← hW3, ← hH]; exact ((Blk.new w _ _).alloc _).alloc _
  have hB1 : Blk W3 (H + 1) [.int .i64 2, .int .i64 i, .int .i64 n, .int .u8 (c.toNat : Int), .bool sh, .int .u64 (K : Int), .int .u64 (T : Int)] := by
    rw [← hW3, ← hH]; exact (Blk.new' _ [.int .i64 2, .int .i64 i, .int .i64 n, .int .u8 (c.toNat : Int), .bool sh, .int .u64 (K : Int), .int .u64 (T : Int)] 36 (H := w.heap.size + 1) (by simp)).alloc _
  have hB2 : Blk W3 (H + 1 + 1) [.int .i64 0, .bool false, .int .i64 0, .slice none 0 0, .slice none 0 0] := by
    rw [← hW3, ← hH]; exact Blk.new' _ [.int .i64 0, .bool false, .int .i64 0, .slice none 0 0, .slice none 0 0] 30 (H := w.heap.size + 1 + 1) (by simp)
  have hb3 : Below w.heap.size w W3 := by
    rw [← hW3]; exact (((Below.refl _ w).alloc (Nat.le_refl _) _).alloc (by simp) _).alloc (by simp; omega) _
  have hd3 := hd.past hb3
  have a0 : W3.cell? ⟨H + 1, 0, none⟩ = some (.int .i64 2) := hB1.cell rfl
  have hc8 := c.toNat_lt
  have hlt : ∀ j, own j → j < H := fun j hj => by have := (hd.lt hj).2; omega
  have HF := Lib.hid (And.intro hB0 (And.intro hB1 (And.intro hB2 hb3)))
  have HD := Lib.hid (And.intro hd (And.intro hr (And.intro hm (And.intro hw (And.intro hR hs)))))
  have HLT := Lib.hid hlt
  have HD3 := Lib.hid hd3
  obtain ⟨Q, hQ⟩ : ∃ Q, Q = DoesPost w B D own { S with fuse := max n (-1) } M' := ⟨_, rfl⟩
  rw [← hQ]
  have HQ := Lib.hid hQ
  clear hd hr hm hw hR hs hB0 hB1 hB2 hb3 hd3 hQ hlt hmc hmo hmf
  have HMq := Lib.hid hM'
  clear hM'
  have a2 : W3.cell? ⟨H + 1, 2, none⟩ = some (.int .i64 n) := HF.out.2.1.cell rfl
  go_enter Try.func10, Try.ntmps10
  go_wp2_with fail
  refine (fuse_any HD3.out n hn).mono ?_
  rintro e w5 ⟨rfl, hp5⟩
  obtain ⟨own5, own6, hd5, hn5, ho5, ho45, hO6, hr5, hl5⟩ := does_mid HD.out.1 HD.out.2.1 (HF.out.2.2.2) hp5
  have h45 := ho45.size
  have HM5 := Lib.hid (And.intro hd5 (And.intro hn5 (And.intro ho5 (And.intro hO6 (And.intro hr5 hl5)))))
  have hK0 := HF.out.1.out ho45 (fun h => by have := HLT.out _ h; omega)
  have hK1 := HF.out.2.1.out ho45 (fun h => by have := HLT.out _ h; omega)
  have hK2 := HF.out.2.2.1.out ho45 (fun h => by have := HLT.out _ h; omega)
  have HB7 := Lib.hid (show ∃ cs, Blk w5 (w.heap.size + 1) cs ∧ cs.length = 7 from ⟨_, by rw [hH]; exact hK1, rfl⟩)
  have b2 : w5.cell? ⟨H + 1, 2, none⟩ = some (.int .i64 n) := hK1.cell rfl
  obtain ⟨k0, k1, k2, k3, k4⟩ := hK0.five
  obtain ⟨f0, f1, f2, f3, f4⟩ := hK0.five_free
  obtain ⟨wr, hwr⟩ : ∃ wr, w5.setCell ⟨H, 2, none⟩ (.int .i64 n) = wr := ⟨_, rfl⟩
  have HW0 := Lib.hid (show Blk wr H [.int .i64 mc, .bool mo, .int .i64 n, .slice Am nm cm, .slice Aw nw cw] by rw [← hwr]; exact hK0.set 2 _)
  have HW2 := Lib.hid (show Blk wr (H + 1 + 1) [.int .i64 0, .bool false, .int .i64 0, .slice none 0 0, .slice none 0 0] by rw [← hwr]; exact hK2.other (p := ⟨H, 2, none⟩) (by show H ≠ H + 1 + 1; omega) _)
  have HOr := Lib.hid (show Out (fun j => j = H) w5 wr by rw [← hwr]; exact (Out.refl (fun j => j = H) _).setCell (p := ⟨H, 2, none⟩) (.inl rfl) _)
  have HV := Lib.hid (show RVal w5 own6 (M') (.agg #[.int .i64 mc, .bool mo, .int .i64 n, .slice Am nm cm, .slice Aw nw cw]) by rw [HMq.out]; exact ⟨Am, nm, cm, Aw, nw, cw, by simp only [HMV.out.1, HMV.out.2.1], HD.out.2.2.1, HD.out.2.2.2.1, ⟨hr5.made, hr5.wait, hr5.cm, hr5.cw⟩⟩)
  clear hp5 hd5 hn5 ho5 ho45 hO6 hr5 hl5 hK0 hK1 hK2
  obtain ⟨p0, p1, p2, p3, p4⟩ := HW0.out.five
  go_wp2_with fail
  refine Gw.wp_region_phase (fun _ _ => True) (fun _ => trivial) (fun _ _ _ _ _ => trivial) (fun p W => if p = 0 then W = wr.drew else Blk W (H + 1 + 1) [.int .i64 mc, .bool mo, .int .i64 n, .slice Am nm cm, .slice Aw nw cw] ∧ Out (fun j => j = H + 1 + 1) wr W) (laG6 H (.agg #[.int .i64 mc, .bool mo, .int .i64 n, .slice Am nm cm, .slice Aw nw cw])) [2] [161, 6] [([4], none, [0], false), ([], none, [0], false), ([7, 161], none, [0], true)] 162 1 (by kernel_rfl) (by kernel_rfl) rfl trivial (by simp) ?h0 ?hreq ?hend
  case h0 =>
    intro t W hnd _
    unfold laG6
    split <;> first | rfl | trivial | exact absurd (by simp) hnd
  case hreq =>
    refine ⟨⟨?_, trivial⟩, ⟨?_, trivial⟩, ⟨?_, trivial⟩, trivial⟩
    all_goals
      intro ac W _ hI hk
      rw [if_pos rfl] at hI
      subst hI
      simp only [Gw.Knows, laG6] at hk
      try (simp [go_sem, Gw.POpReq, Gw.OkP, Gw.PPost, Gw.HoldsR, laG6, hk, p0, p1, p2, p3, p4]; done)
    obtain ⟨hk1, hk2, -⟩ := hk
    obtain ⟨w', hrun, h2, h3⟩ := run_store_blk (P := Try.prog) (w := wr.drew) (b := H + 1 + 1) (ty := 30) (vs := #[.int .i64 mc, .bool mo, .int .i64 n, .slice Am nm cm, .slice Aw nw cw]) HW2.out.drew rfl d_size (d_one _ _ _ _ _ _ _ _ _)
    exact Gw.ok_store rfl ((Gw.eval_slot ac 7).trans hk1) ((Gw.eval_slot ac 161).trans hk2) hrun ⟨trivial, ⟨h2, (out_drew _ _).trans h3⟩, trivial⟩
  case hend =>
    intro x' wF _ hI hx
    rw [if_neg (by simp)] at hI
    have h6 : x' 6 = .bool true := (hx 6 (by simp)) wF trivial
    have HI := Lib.hid hI
    clear hx hI
    simp only [Gw.putAll, Act.put, List.setIfInBounds_toArray, List.set_cons_zero, List.set_cons_succ]
    rw [h6]
    go_wp2
    obtain ⟨r0, r1, r2, r3, r4⟩ := HI.out.1.five
    refine bodyPost_ret (v := .tuple #[.bool true, .agg #[.int .i64 mc, .bool mo, .int .i64 n, .slice Am nm cm, .slice Aw nw cw]]) (by simp [results, Try.results10, go_sem, r0, r1, r2, r3, r4]) rfl ?_
    rw [HQ.out]
    exact does_fin (h3 := by omega) (hb7 := HB7.out) (h7 := fun h => by rcases h with h | h <;> omega) (T := fun j => j = H ∨ j = H + 1 + 1) HM5.out.1 (fun j hj => by
      rcases HM5.out.2.1 j hj with h | h
      · exact .inl h
      · exact .inr (by omega)) HM5.out.2.2.1 HM5.out.2.2.2.1 (Below.refl _ _) HV.out ((HOr.out.more fun j _ h => .inl h).trans (HI.out.2.more fun j _ h => .inr h)) (fun j hj => by
      refine ⟨by omega, by omega, fun ho => ?_⟩
      rcases HM5.out.2.1 j ho with h | h
      · have := HLT.out j h; omega
      · omega)
set_option maxRecDepth 100000 in
set_option maxHeartbeats 4000000 in
theorem does_off {own : Nat → Prop} {w : World} {B D : Nat} {S : Dsk} {m : RefM} {Am Aw : Option Addr} {nm cm nw cw : Nat} (hd : DiskAt w B D S own) (hr : RefAt w own m Am cm Aw cw) (hm : m.made.length = nm) (hw : m.wait.length = nw) (hR : Rel S m) {kk : Nat} (hs : Small S m kk) (i n : Int) (c : UInt8) (sh : Bool) (K T : Nat) (M' : RefM) (hM' : M' = { m with off := true }) :
    Calls Try.prog 10 #[.pointer (some ⟨D, 0, none⟩), .agg #[.int .i64 (m.count : Int), .bool m.off, .int .i64 m.fuse, .slice Am nm cm, .slice Aw nw cw], .agg #[.int .i64 3, .int .i64 i, .int .i64 n, .int .u8 (c.toNat : Int), .bool sh, .int .u64 (K : Int), .int .u64 (T : Int)]] w (DoesPost w B D own { S with on := false } M') := by
  obtain ⟨H, hH⟩ : ∃ H, w.heap.size = H := ⟨_, rfl⟩
  obtain ⟨mc, hmc⟩ : ∃ mc, (m.count : Int) = mc := ⟨_, rfl⟩
  obtain ⟨mo, hmo⟩ : ∃ mo, m.off = mo := ⟨_, rfl⟩
  obtain ⟨mf, hmf⟩ : ∃ mf, m.fuse = mf := ⟨_, rfl⟩
  rw [hmc, hmo, hmf]
  have HMV := Lib.hid (And.intro hmc (And.intro hmo hmf))
  obtain ⟨W3, hW3⟩ : ∃ W3, ((w.alloc (.cells #[.int .i64 mc, .bool mo, .int .i64 mf, .slice Am nm cm, .slice Aw nw cw] 30)).alloc (.cells #[.int .i64 3, .int .i64 i, .int .i64 n, .int .u8 (c.toNat : Int), .bool sh, .int .u64 (K : Int), .int .u64 (T : Int)] 36)).alloc (.cells #[.int .i64 0, .bool false, .int .i64 0, .slice none 0 0, .slice none 0 0] 30) = W3 := ⟨_, rfl⟩
  have hsz : W3.heap.size = H + 3 := by rw [← hW3, ← hH]; simp
  have hB0 : Blk W3 H [.int .i64 mc, .bool mo, .int .i64 mf, .slice Am nm cm, .slice Aw nw cw] := by
    rw [← hW3, ← hH]; exact ((Blk.new w _ _).alloc _).alloc _
  have hB1 : Blk W3 (H + 1) [.int .i64 3, .int .i64 i, .int .i64 n, .int .u8 (c.toNat : Int), .bool sh, .int .u64 (K : Int), .int .u64 (T : Int)] := by
    rw [← hW3, ← hH]; exact (Blk.new' _ [.int .i64 3, .int .i64 i, .int .i64 n, .int .u8 (c.toNat : Int), .bool sh, .int .u64 (K : Int), .int .u64 (T : Int)] 36 (H := w.heap.size + 1) (by simp)).alloc _
  have hB2 : Blk W3 (H + 1 + 1) [.int .i64 0, .bool false, .int .i64 0, .slice none 0 0, .slice none 0 0] := by
    rw [← hW3, ← hH]; exact Blk.new' _ [.int .i64 0, .bool false, .int .i64 0, .slice none 0 0, .slice none 0 0] 30 (H := w.heap.size + 1 + 1) (by simp)
  have hb3 : Below w.heap.size w W3 := by
    rw [← hW3]; exact (((Below.refl _ w).alloc (Nat.le_refl _) _).alloc (by simp) _).alloc (by simp; omega) _
  have hd3 := hd.past hb3
  have a0 : W3.cell? ⟨H + 1, 0, none⟩ = some (.int .i64 3) := hB1.cell rfl
  have hc8 := c.toNat_lt
  have hlt : ∀ j, own j → j < H := fun j hj => by have := (hd.lt hj).2; omega
  have HF := Lib.hid (And.intro hB0 (And.intro hB1 (And.intro hB2 hb3)))
  have HD := Lib.hid (And.intro hd (And.intro hr (And.intro hm (And.intro hw (And.intro hR hs)))))
  have HLT := Lib.hid hlt
  have HD3 := Lib.hid hd3
  obtain ⟨Q, hQ⟩ : ∃ Q, Q = DoesPost w B D own { S with on := false } M' := ⟨_, rfl⟩
  rw [← hQ]
  have HQ := Lib.hid hQ
  clear hd hr hm hw hR hs hB0 hB1 hB2 hb3 hd3 hQ hlt hmc hmo hmf
  have HMq := Lib.hid hM'
  clear hM'
  go_enter Try.func10, Try.ntmps10
  go_wp2_with fail
  refine (off_any HD3.out).mono ?_
  rintro e w5 ⟨rfl, hp5⟩
  obtain ⟨own5, own6, hd5, hn5, ho5, ho45, hO6, hr5, hl5⟩ := does_mid HD.out.1 HD.out.2.1 (HF.out.2.2.2) hp5
  have h45 := ho45.size
  have HM5 := Lib.hid (And.intro hd5 (And.intro hn5 (And.intro ho5 (And.intro hO6 (And.intro hr5 hl5)))))
  have hK0 := HF.out.1.out ho45 (fun h => by have := HLT.out _ h; omega)
  have hK1 := HF.out.2.1.out ho45 (fun h => by have := HLT.out _ h; omega)
  have hK2 := HF.out.2.2.1.out ho45 (fun h => by have := HLT.out _ h; omega)
  have HB7 := Lib.hid (show ∃ cs, Blk w5 (w.heap.size + 1) cs ∧ cs.length = 7 from ⟨_, by rw [hH]; exact hK1, rfl⟩)
  obtain ⟨k0, k1, k2, k3, k4⟩ := hK0.five
  obtain ⟨f0, f1, f2, f3, f4⟩ := hK0.five_free
  obtain ⟨wr, hwr⟩ : ∃ wr, w5.setCell ⟨H, 1, none⟩ (.bool true) = wr := ⟨_, rfl⟩
  have HW0 := Lib.hid (show Blk wr H [.int .i64 mc, .bool true, .int .i64 mf, .slice Am nm cm, .slice Aw nw cw] by rw [← hwr]; exact hK0.set 1 _)
  have HW2 := Lib.hid (show Blk wr (H + 1 + 1) [.int .i64 0, .bool false, .int .i64 0, .slice none 0 0, .slice none 0 0] by rw [← hwr]; exact hK2.other (p := ⟨H, 1, none⟩) (by show H ≠ H + 1 + 1; omega) _)
  have HOr := Lib.hid (show Out (fun j => j = H) w5 wr by rw [← hwr]; exact (Out.refl (fun j => j = H) _).setCell (p := ⟨H, 1, none⟩) (.inl rfl) _)
  have HV := Lib.hid (show RVal w5 own6 (M') (.agg #[.int .i64 mc, .bool true, .int .i64 mf, .slice Am nm cm, .slice Aw nw cw]) by rw [HMq.out]; exact ⟨Am, nm, cm, Aw, nw, cw, by simp only [HMV.out.1, HMV.out.2.2], HD.out.2.2.1, HD.out.2.2.2.1, ⟨hr5.made, hr5.wait, hr5.cm, hr5.cw⟩⟩)
  clear hp5 hd5 hn5 ho5 ho45 hO6 hr5 hl5 hK0 hK1 hK2
  obtain ⟨p0, p1, p2, p3, p4⟩ := HW0.out.five
  go_wp2_with fail
  refine Gw.wp_region_phase (fun _ _ => True) (fun _ => trivial) (fun _ _ _ _ _ => trivial) (fun p W => if p = 0 then W = wr.drew else Blk W (H + 1 + 1) [.int .i64 mc, .bool true, .int .i64 mf, .slice Am nm cm, .slice Aw nw cw] ∧ Out (fun j => j = H + 1 + 1) wr W) (laG6 H (.agg #[.int .i64 mc, .bool true, .int .i64 mf, .slice Am nm cm, .slice Aw nw cw])) [2] [161, 6] [([4], none, [0], false), ([], none, [0], false), ([7, 161], none, [0], true)] 162 1 (by kernel_rfl) (by kernel_rfl) rfl trivial (by simp) ?h0 ?hreq ?hend
  case h0 =>
    intro t W hnd _
    unfold laG6
    split <;> first | rfl | trivial | exact absurd (by simp) hnd
  case hreq =>
    refine ⟨⟨?_, trivial⟩, ⟨?_, trivial⟩, ⟨?_, trivial⟩, trivial⟩
    all_goals
      intro ac W _ hI hk
      rw [if_pos rfl] at hI
      subst hI
      simp only [Gw.Knows, laG6] at hk
      try (simp [go_sem, Gw.POpReq, Gw.OkP, Gw.PPost, Gw.HoldsR, laG6, hk, p0, p1, p2, p3, p4]; done)
    obtain ⟨hk1, hk2, -⟩ := hk
    obtain ⟨w', hrun, h2, h3⟩ := run_store_blk (P := Try.prog) (w := wr.drew) (b := H + 1 + 1) (ty := 30) (vs := #[.int .i64 mc, .bool true, .int .i64 mf, .slice Am nm cm, .slice Aw nw cw]) HW2.out.drew rfl d_size (d_one _ _ _ _ _ _ _ _ _)
    exact Gw.ok_store rfl ((Gw.eval_slot ac 7).trans hk1) ((Gw.eval_slot ac 161).trans hk2) hrun ⟨trivial, ⟨h2, (out_drew _ _).trans h3⟩, trivial⟩
  case hend =>
    intro x' wF _ hI hx
    rw [if_neg (by simp)] at hI
    have h6 : x' 6 = .bool true := (hx 6 (by simp)) wF trivial
    have HI := Lib.hid hI
    clear hx hI
    simp only [Gw.putAll, Act.put, List.setIfInBounds_toArray, List.set_cons_zero, List.set_cons_succ]
    rw [h6]
    go_wp2
    obtain ⟨r0, r1, r2, r3, r4⟩ := HI.out.1.five
    refine bodyPost_ret (v := .tuple #[.bool true, .agg #[.int .i64 mc, .bool true, .int .i64 mf, .slice Am nm cm, .slice Aw nw cw]]) (by simp [results, Try.results10, go_sem, r0, r1, r2, r3, r4]) rfl ?_
    rw [HQ.out]
    exact does_fin (h3 := by omega) (hb7 := HB7.out) (h7 := fun h => by rcases h with h | h <;> omega) (T := fun j => j = H ∨ j = H + 1 + 1) HM5.out.1 (fun j hj => by
      rcases HM5.out.2.1 j hj with h | h
      · exact .inl h
      · exact .inr (by omega)) HM5.out.2.2.1 HM5.out.2.2.2.1 (Below.refl _ _) HV.out ((HOr.out.more fun j _ h => .inl h).trans (HI.out.2.more fun j _ h => .inr h)) (fun j hj => by
      refine ⟨by omega, by omega, fun ho => ?_⟩
      rcases HM5.out.2.1 j ho with h | h
      · have := HLT.out j h; omega
      · omega)
set_option maxRecDepth 100000 in
set_option maxHeartbeats 4000000 in
theorem does_back {own : Nat → Prop} {w : World} {B D : Nat} {S : Dsk} {m : RefM} {Am Aw : Option Addr} {nm cm nw cw : Nat} (hd : DiskAt w B D S own) (hr : RefAt w own m Am cm Aw cw) (hm : m.made.length = nm) (hw : m.wait.length = nw) (hR : Rel S m) {kk : Nat} (hs : Small S m kk) (hkk : kk ≤ 1000) (i n : Int) (c : UInt8) (sh : Bool) (K T : Nat) (hK : K < 18446744073709551616) (hT : T < 18446744073709551616) :
    Calls Try.prog 10 #[.pointer (some ⟨D, 0, none⟩), .agg #[.int .i64 (m.count : Int), .bool m.off, .int .i64 m.fuse, .slice Am nm cm, .slice Aw nw cw], .agg #[.int .i64 4, .int .i64 i, .int .i64 n, .int .u8 (c.toNat : Int), .bool sh, .int .u64 (K : Int), .int .u64 (T : Int)]] w (DoesPost w B D own (backD K T S) (backM K T m)) := by
  obtain ⟨H, hH⟩ : ∃ H, w.heap.size = H := ⟨_, rfl⟩
  obtain ⟨mc, hmc⟩ : ∃ mc, (m.count : Int) = mc := ⟨_, rfl⟩
  obtain ⟨mo, hmo⟩ : ∃ mo, m.off = mo := ⟨_, rfl⟩
  obtain ⟨mf, hmf⟩ : ∃ mf, m.fuse = mf := ⟨_, rfl⟩
  rw [hmc, hmo, hmf]
  have HMV := Lib.hid (And.intro hmc (And.intro hmo hmf))
  obtain ⟨W3, hW3⟩ : ∃ W3, ((w.alloc (.cells #[.int .i64 mc, .bool mo, .int .i64 mf, .slice Am nm cm, .slice Aw nw cw] 30)).alloc (.cells #[.int .i64 4, .int .i64 i, .int .i64 n, .int .u8 (c.toNat : Int), .bool sh, .int .u64 (K : Int), .int .u64 (T : Int)] 36)).alloc (.cells #[.int .i64 0, .bool false, .int .i64 0, .slice none 0 0, .slice none 0 0] 30) = W3 := ⟨_, rfl⟩
  have hsz : W3.heap.size = H + 3 := by rw [← hW3, ← hH]; simp
  have hB0 : Blk W3 H [.int .i64 mc, .bool mo, .int .i64 mf, .slice Am nm cm, .slice Aw nw cw] := by
    rw [← hW3, ← hH]; exact ((Blk.new w _ _).alloc _).alloc _
  have hB1 : Blk W3 (H + 1) [.int .i64 4, .int .i64 i, .int .i64 n, .int .u8 (c.toNat : Int), .bool sh, .int .u64 (K : Int), .int .u64 (T : Int)] := by
    rw [← hW3, ← hH]; exact (Blk.new' _ [.int .i64 4, .int .i64 i, .int .i64 n, .int .u8 (c.toNat : Int), .bool sh, .int .u64 (K : Int), .int .u64 (T : Int)] 36 (H := w.heap.size + 1) (by simp)).alloc _
  have hB2 : Blk W3 (H + 1 + 1) [.int .i64 0, .bool false, .int .i64 0, .slice none 0 0, .slice none 0 0] := by
    rw [← hW3, ← hH]; exact Blk.new' _ [.int .i64 0, .bool false, .int .i64 0, .slice none 0 0, .slice none 0 0] 30 (H := w.heap.size + 1 + 1) (by simp)
  have hb3 : Below w.heap.size w W3 := by
    rw [← hW3]; exact (((Below.refl _ w).alloc (Nat.le_refl _) _).alloc (by simp) _).alloc (by simp; omega) _
  have hd3 := hd.past hb3
  have a0 : W3.cell? ⟨H + 1, 0, none⟩ = some (.int .i64 4) := hB1.cell rfl
  have hc8 := c.toNat_lt
  have hlt : ∀ j, own j → j < H := fun j hj => by have := (hd.lt hj).2; omega
  have HF := Lib.hid (And.intro hB0 (And.intro hB1 (And.intro hB2 hb3)))
  have HD := Lib.hid (And.intro hd (And.intro hr (And.intro hm (And.intro hw (And.intro hR hs)))))
  have HLT := Lib.hid hlt
  have HD3 := Lib.hid hd3
  obtain ⟨Q, hQ⟩ : ∃ Q, Q = DoesPost w B D own (backD K T S) (backM K T m) := ⟨_, rfl⟩
  rw [← hQ]
  have HQ := Lib.hid hQ
  clear hd hr hm hw hR hs hB0 hB1 hB2 hb3 hd3 hQ hlt hmc hmo hmf
  obtain ⟨SD, hSD⟩ : ∃ a, backD K T S = a := ⟨_, rfl⟩
  obtain ⟨M', hMR⟩ : ∃ a, backM K T m = a := ⟨_, rfl⟩
  rw [hSD, hMR] at HQ
  have HSD := Lib.hid hSD
  have HMR := Lib.hid hMR
  have a5 : W3.cell? ⟨H + 1, 5, none⟩ = some (.int .u64 (K : Int)) := HF.out.2.1.cell rfl
  have a6 : W3.cell? ⟨H + 1, 6, none⟩ = some (.int .u64 (T : Int)) := HF.out.2.1.cell rfl
  clear hSD hMR
  go_enter Try.func10, Try.ntmps10
  go_wp2_with fail
  refine (back_any HD3.out K T hK hT (by have := HD.out.2.2.2.2.2.pend; omega)).mono ?_
  rw [HSD.out]
  rintro e w5 ⟨rfl, hp5⟩
  obtain ⟨own5, own6, hd5, hn5, ho5, ho45, hO6, hr5, hl5⟩ := does_mid HD.out.1 HD.out.2.1 (HF.out.2.2.2) hp5
  have h45 := ho45.size
  have HM5 := Lib.hid (And.intro hd5 (And.intro hn5 (And.intro ho5 (And.intro hO6 (And.intro hr5 hl5)))))
  have hK0 := HF.out.1.out ho45 (fun h => by have := HLT.out _ h; omega)
  have hK1 := HF.out.2.1.out ho45 (fun h => by have := HLT.out _ h; omega)
  have hK2 := HF.out.2.2.1.out ho45 (fun h => by have := HLT.out _ h; omega)
  have HB7 := Lib.hid (show ∃ cs, Blk w5 (w.heap.size + 1) cs ∧ cs.length = 7 from ⟨_, by rw [hH]; exact hK1, rfl⟩)
  have b5 : w5.cell? ⟨H + 1, 5, none⟩ = some (.int .u64 (K : Int)) := hK1.cell rfl
  have b6 : w5.cell? ⟨H + 1, 6, none⟩ = some (.int .u64 (T : Int)) := hK1.cell rfl
  obtain ⟨k0, k1, k2, k3, k4⟩ := hK0.five
  have HK0 := Lib.hid hK0
  have HK2 := Lib.hid hK2
  clear hp5 hd5 hn5 ho5 ho45 hO6 hr5 hl5 hK0 hK1 hK2
  go_wp2_with fail
  have hc := rback_any HM5.out.2.2.2.2.1 HD.out.2.2.1 HD.out.2.2.2.1 (by have := HD.out.2.2.2.2.2.made; have := HD.out.2.2.1; have := HD.out.2.2.2.1; omega) HM5.out.2.2.2.2.2 HD.out.2.2.2.2.1.same.1 (Rel.wait8 HD.out.2.2.2.2.1) K T hK hT
  rw [HMV.out.1, HMV.out.2.1, HMV.out.2.2, HMR.out] at hc
  refine hc.mono ?_
  clear hc
  rintro e w6 ⟨v, rfl, ⟨A2, n2, c2, A3, n3, c3, rfl, hm2, hw2, hr2⟩, hb6⟩
  have HV6 := Lib.hid (show RVal w6 own6 M' (.agg #[.int .i64 (M'.count : Int), .bool M'.off, .int .i64 M'.fuse, .slice A2 n2 c2, .slice A3 n3 c3]) from ⟨A2, n2, c2, A3, n3, c3, rfl, hm2, hw2, hr2⟩)
  have HB6 := Lib.hid hb6
  have h56 := hb6.size
  have HX0 := Lib.hid (HK0.out.past hb6)
  have HX2 := Lib.hid (HK2.out.past hb6)
  clear hm2 hw2 hr2 hb6 k0 k1 k2 k3 k4
  go_wp2_with (first
    | (refine wpList_store_blk rfl 30 _ _ rfl H _ #[.int .i64 (M'.count : Int), .bool M'.off, .int .i64 M'.fuse, .slice A2 n2 c2, .slice A3 n3 c3] rfl rfl HX0.out rfl d_size (d_one _ _ _ _ _ _ _ _ _) ?_
       intro wr hb7 ho7
       have HW0 := Lib.hid (show Blk wr H [.int .i64 (M'.count : Int), .bool M'.off, .int .i64 M'.fuse, .slice A2 n2 c2, .slice A3 n3 c3] from hb7)
       have HOr := Lib.hid ho7
       have HW2 := Lib.hid (HX2.out.out ho7 (by omega))
       clear hb7 ho7)
    | fail)
  obtain ⟨p0, p1, p2, p3, p4⟩ := HW0.out.five
  try go_wp2_with fail
  refine Gw.wp_region_phase (fun _ _ => True) (fun _ => trivial) (fun _ _ _ _ _ => trivial) (fun p W => if p = 0 then W = wr.drew else Blk W (H + 1 + 1) [.int .i64 (M'.count : Int), .bool M'.off, .int .i64 M'.fuse, .slice A2 n2 c2, .slice A3 n3 c3] ∧ Out (fun j => j = H + 1 + 1) wr W) (laG6 H (.agg #[.int .i64 (M'.count : Int), .bool M'.off, .int .i64 M'.fuse, .slice A2 n2 c2, .slice A3 n3 c3])) [2] [161, 6] [([4], none, [0], false), ([], none, [0], false), ([7, 161], none, [0], true)] 162 1 (by kernel_rfl) (by kernel_rfl) rfl trivial (by simp) ?h0 ?hreq ?hend
  case h0 =>
    intro t W hnd _
    unfold laG6
    split <;> first | rfl | trivial | exact absurd (by simp) hnd
  case hreq =>
    refine ⟨⟨?_, trivial⟩, ⟨?_, trivial⟩, ⟨?_, trivial⟩, trivial⟩
    all_goals
      intro ac W _ hI hk
      rw [if_pos rfl] at hI
      subst hI
      simp only [Gw.Knows, laG6] at hk
      try (simp [go_sem, Gw.POpReq, Gw.OkP, Gw.PPost, Gw.HoldsR, laG6, hk, p0, p1, p2, p3, p4]; done)
    obtain ⟨hk1, hk2, -⟩ := hk
    obtain ⟨w', hrun, h2, h3⟩ := run_store_blk (P := Try.prog) (w := wr.drew) (b := H + 1 + 1) (ty := 30) (vs := #[.int .i64 (M'.count : Int), .bool M'.off, .int .i64 M'.fuse, .slice A2 n2 c2, .slice A3 n3 c3]) HW2.out.drew rfl d_size (d_one _ _ _ _ _ _ _ _ _)
    exact Gw.ok_store rfl ((Gw.eval_slot ac 7).trans hk1) ((Gw.eval_slot ac 161).trans hk2) hrun ⟨trivial, ⟨h2, (out_drew _ _).trans h3⟩, trivial⟩
  case hend =>
    intro x' wF _ hI hx
    rw [if_neg (by simp)] at hI
    have h6 : x' 6 = .bool true := (hx 6 (by simp)) wF trivial
    have HI := Lib.hid hI
    clear hx hI
    simp only [Gw.putAll, Act.put, List.setIfInBounds_toArray, List.set_cons_zero, List.set_cons_succ]
    rw [h6]
    go_wp2
    obtain ⟨r0, r1, r2, r3, r4⟩ := HI.out.1.five
    refine bodyPost_ret (v := .tuple #[.bool true, .agg #[.int .i64 (M'.count : Int), .bool M'.off, .int .i64 M'.fuse, .slice A2 n2 c2, .slice A3 n3 c3]]) (by simp [results, Try.results10, go_sem, r0, r1, r2, r3, r4]) rfl ?_
    rw [HQ.out]
    exact does_fin (h3 := by omega) (hb7 := HB7.out) (h7 := fun h => by rcases h with h | h <;> omega) (T := fun j => j = H ∨ j = H + 1 + 1) HM5.out.1 (fun j hj => by
      rcases HM5.out.2.1 j hj with h | h
      · exact .inl h
      · exact .inr (by omega)) HM5.out.2.2.1 HM5.out.2.2.2.1 HB6.out HV6.out ((HOr.out.more fun j _ h => .inl h).trans (HI.out.2.more fun j _ h => .inr h)) (fun j hj => by
      refine ⟨by omega, by omega, fun ho => ?_⟩
      rcases HM5.out.2.1 j ho with h | h
      · have := HLT.out j h; omega
      · omega)
end Go.Proofs.Ytpdhnkmihlgdjaa
