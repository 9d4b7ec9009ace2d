/- A byte spoilt, of the law's. -/
import Derived.Test.YtpdhnkmihlgdjaaDoA
namespace Go.Proofs.Ytpdhnkmihlgdjaa
open Go.RowKit Me Rw Ds

def laG5 (X H : Nat) (x : Int) (v : Value) : Gw.Fact := fun t u _ =>
  match t with
  | 16 | 157 | 18 | 158 => u = .int .i64 x
  | 159 | 6 => u = .bool true
  | 17 => u = .pointer (some ⟨X, 0, none⟩)
  | 160 => u = v
  | 7 => u = .pointer (some ⟨H + 1 + 1, 0, none⟩)
  | _ => True
set_option maxRecDepth 100000 in
set_option maxHeartbeats 4000000 in
theorem does_spoil {own : Nat → Prop} {w : World} {B D : Nat} {S : Dsk} {m : RefM} {Am Aw : Option Addr} {nm cm nw cw : Nat} (hd : DiskAt w B D S own) (hr : RefAt w own m Am cm Aw cw) (hm : m.made.length = nm) (hw : m.wait.length = nw) (hR : Rel S m) {kk : Nat} (hs : Small S m kk) (hkk : kk ≤ 1000) (i n : Int) (c : UInt8) (sh : Bool) (K T : Nat) :
    Calls Try.prog 10 #[.pointer (some ⟨D, 0, none⟩), .agg #[.int .i64 (m.count : Int), .bool m.off, .int .i64 m.fuse, .slice Am nm cm, .slice Aw nw cw], .agg #[.int .i64 5, .int .i64 i, .int .i64 n, .int .u8 (c.toNat : Int), .bool sh, .int .u64 (K : Int), .int .u64 (T : Int)]] w (DoesPost w B D own (spoilD S i n c).1 (spoilR m i n c).1) := by
  obtain ⟨H, hH⟩ : ∃ H, w.heap.size = H := ⟨_, rfl⟩
  obtain ⟨mc, hmc⟩ : ∃ mc, (m.count : Int) = mc := ⟨_, rfl⟩
  obtain ⟨mo, hmo⟩ : ∃ mo, m.off = mo := ⟨_, rfl⟩
  obtain ⟨mf, hmf⟩ : ∃ mf, m.fuse = mf := ⟨_, rfl⟩
  rw [hmc, hmo, hmf]
  have HMV := Lib.hid (And.intro hmc (And.intro hmo hmf))
  obtain ⟨W3, hW3⟩ : ∃ W3, ((w.alloc (.cells #[.int .i64 mc, .bool mo, .int .i64 mf, .slice Am nm cm, .slice Aw nw cw] 30)).alloc (.cells #[.int .i64 5, .int .i64 i, .int .i64 n, .int .u8 (c.toNat : Int), .bool sh, .int .u64 (K : Int), .int .u64 (T : Int)] 36)).alloc (.cells #[.int .i64 0, .bool false, .int .i64 0, .slice none 0 0, .slice none 0 0] 30) = W3 := ⟨_, rfl⟩
  have hsz : W3.heap.size = H + 3 := by rw [← hW3, ← hH]; simp
  have hB0 : Blk W3 H [.int .i64 mc, .bool mo, .int .i64 mf, .slice Am nm cm, .slice Aw nw cw] := by
    rw [← hW3, ← hH]; exact ((Blk.new w _ _).alloc _).alloc _
  have hB1 : Blk W3 (H + 1) [.int .i64 5, .int .i64 i, .int .i64 n, .int .u8 (c.toNat : Int), .bool sh, .int .u64 (K : Int), .int .u64 (T : Int)] := by
    rw [← hW3, ← hH]; exact (Blk.new' _ [.int .i64 5, .int .i64 i, .int .i64 n, .int .u8 (c.toNat : Int), .bool sh, .int .u64 (K : Int), .int .u64 (T : Int)] 36 (H := w.heap.size + 1) (by simp)).alloc _
  have hB2 : Blk W3 (H + 1 + 1) [.int .i64 0, .bool false, .int .i64 0, .slice none 0 0, .slice none 0 0] := by
    rw [← hW3, ← hH]; exact Blk.new' _ [.int .i64 0, .bool false, .int .i64 0, .slice none 0 0, .slice none 0 0] 30 (H := w.heap.size + 1 + 1) (by simp)
  have hb3 : Below w.heap.size w W3 := by
    rw [← hW3]; exact (((Below.refl _ w).alloc (Nat.le_refl _) _).alloc (by simp) _).alloc (by simp; omega) _
  have hd3 := hd.past hb3
  have a0 : W3.cell? ⟨H + 1, 0, none⟩ = some (.int .i64 5) := hB1.cell rfl
  have hc8 := c.toNat_lt
  have hlt : ∀ j, own j → j < H := fun j hj => by have := (hd.lt hj).2; omega
  have HF := Lib.hid (And.intro hB0 (And.intro hB1 (And.intro hB2 hb3)))
  have HD := Lib.hid (And.intro hd (And.intro hr (And.intro hm (And.intro hw (And.intro hR hs)))))
  have HLT := Lib.hid hlt
  have HD3 := Lib.hid hd3
  obtain ⟨Q, hQ⟩ : ∃ Q, Q = DoesPost w B D own (spoilD S i n c).1 (spoilR m i n c).1 := ⟨_, rfl⟩
  rw [← hQ]
  have HQ := Lib.hid hQ
  clear hd hr hm hw hR hs hB0 hB1 hB2 hb3 hd3 hQ hlt hmc hmo hmf
  obtain ⟨SD, x, hSD⟩ : ∃ a b, spoilD S i n c = (a, b) := ⟨_, _, rfl⟩
  obtain ⟨M', y, hMR⟩ : ∃ a b, spoilR m i n c = (a, b) := ⟨_, _, rfl⟩
  have hxy := (rel_spoil HD.out.2.2.2.2.1 i n c).2.1
  rw [hSD, hMR] at hxy HQ
  have hxy : x = y := hxy
  subst hxy
  have HSD := Lib.hid hSD
  have HMR := Lib.hid hMR
  clear hSD hMR
  have a1 : W3.cell? ⟨H + 1, 1, none⟩ = some (.int .i64 i) := HF.out.2.1.cell rfl
  have a2 : W3.cell? ⟨H + 1, 2, none⟩ = some (.int .i64 n) := HF.out.2.1.cell rfl
  have a3 : W3.cell? ⟨H + 1, 3, none⟩ = some (.int .u8 (c.toNat : Int)) := HF.out.2.1.cell rfl
  go_enter Try.func10, Try.ntmps10
  go_wp2_with fail
  refine (spoil_any HD3.out i n c).mono ?_
  rw [HSD.out]
  rintro e w5 ⟨rfl, hp5⟩
  obtain ⟨own5, own6, hd5, hn5, ho5, ho45, hO6, hr5, hl5⟩ := does_mid HD.out.1 HD.out.2.1 (HF.out.2.2.2) hp5
  have h45 := ho45.size
  have hsm := HD.out.2.2.2.2.2
  have hl := HD.out.2.2.2.2.1.low
  have HM5 := Lib.hid (And.intro hd5 (And.intro hn5 (And.intro ho5 (And.intro hO6 (And.intro hr5 hl5)))))
  have hK0 := HF.out.1.out ho45 (fun h => by have := HLT.out _ h; omega)
  have hK2 := HF.out.2.2.1.out ho45 (fun h => by have := HLT.out _ h; omega)
  obtain ⟨k0, k1, k2, k3, k4⟩ := hK0.five
  have hK1 := HF.out.2.1.out ho45 (fun h => by have := HLT.out _ h; omega)
  have b1 : w5.cell? ⟨H + 1, 1, none⟩ = some (.int .i64 i) := hK1.cell rfl
  have b2 : w5.cell? ⟨H + 1, 2, none⟩ = some (.int .i64 n) := hK1.cell rfl
  have b3 : w5.cell? ⟨H + 1, 3, none⟩ = some (.int .u8 (c.toNat : Int)) := hK1.cell rfl
  have HB7 := Lib.hid (show ∃ cs, Blk w5 (w.heap.size + 1) cs ∧ cs.length = 7 from ⟨_, by rw [hH]; exact hK1, rfl⟩)
  clear hK1
  have HK2 := Lib.hid hK2
  have HSM := Lib.hid hsm
  have HLW := Lib.hid hl
  clear hp5 hd5 hn5 ho5 ho45 hO6 hr5 hl5 hK0 hK2 hsm hl
  go_wp2_with fail
  have hc := rspoil_any HM5.out.2.2.2.2.1 HD.out.2.2.1 HD.out.2.2.2.1 (by have := HSM.out.made; have := HD.out.2.2.1; have := HD.out.2.2.2.1; omega) HM5.out.2.2.2.2.2 HD.out.2.2.2.2.1.same.1 i n c
  rw [HMV.out.1, HMV.out.2.1, HMV.out.2.2, HMR.out] at hc
  refine hc.mono ?_
  clear hc
  rintro e w6 ⟨v, rfl, ⟨A2, n2, c2, A3, n3, c3, rfl, hm2, hw2, hr2⟩, hb6⟩
  have HV6 := Lib.hid (show RVal w6 own6 M' (.agg #[.int .i64 (M'.count : Int), .bool M'.off, .int .i64 M'.fuse, .slice A2 n2 c2, .slice A3 n3 c3]) from ⟨A2, n2, c2, A3, n3, c3, rfl, hm2, hw2, hr2⟩)
  have HB6 := Lib.hid hb6
  have h56 := hb6.size
  obtain ⟨X, hX⟩ : ∃ X, w6.heap.size = X := ⟨_, rfl⟩
  obtain ⟨WX, hWX⟩ : ∃ WX, w6.alloc (.cells #[.int .i64 0, .bool false, .int .i64 0, .slice none 0 0, .slice none 0 0] 30) = WX := ⟨_, rfl⟩
  have hX0 : Blk WX X [.int .i64 0, .bool false, .int .i64 0, .slice none 0 0, .slice none 0 0] := by rw [← hWX, ← hX]; exact Blk.new w6 _ _
  have hbX : Below X w6 WX := by rw [← hWX, ← hX]; exact (Below.refl _ _).alloc (Nat.le_refl _) _
  have HX0 := Lib.hid hX0
  have HBX := Lib.hid hbX
  have hsX := hbX.size
  clear hm2 hw2 hr2 hb6 hX0 hbX k0 k1 k2 k3 k4
  go_wp2_with (first
    | (refine wpList_store_blk rfl 30 _ _ rfl X _ #[.int .i64 (M'.count : Int), .bool M'.off, .int .i64 M'.fuse, .slice A2 n2 c2, .slice A3 n3 c3] rfl rfl HX0.out rfl d_size (d_one _ _ _ _ _ _ _ _ _) ?_
       intro w7 hb7 ho7
       have HX7 := Lib.hid (show Blk w7 X [.int .i64 (M'.count : Int), .bool M'.off, .int .i64 M'.fuse, .slice A2 n2 c2, .slice A3 n3 c3] from hb7)
       have HO7 := Lib.hid ho7
       clear hb7 ho7)
    | fail)
  have hb67 : Below X w6 w7 := HBX.out.trans (HO7.out.below (B := X) (fun j _ hj => by omega) (by have := HBX.out.size; omega))
  have HB67 := Lib.hid hb67
  have hR2 := (HK2.out.past HB6.out).past (show Below w6.heap.size w6 w7 by rw [hX]; exact hb67)
  have HR2 := Lib.hid hR2
  obtain ⟨p0, p1, p2, p3, p4⟩ := HX7.out.five
  obtain ⟨wr, hwr⟩ : ∃ wr, wr = w7 := ⟨_, rfl⟩
  subst hwr
  clear hb67 hR2
  refine Gw.wp_region_phase (fun _ _ => True) (fun _ => trivial) (fun _ _ _ _ _ => trivial) (fun p W => if p = 0 then W = wr.drew else Blk W (H + 1 + 1) [.int .i64 (M'.count : Int), .bool M'.off, .int .i64 M'.fuse, .slice A2 n2 c2, .slice A3 n3 c3] ∧ Out (fun j => j = H + 1 + 1) wr W) (laG5 X H x (.agg #[.int .i64 (M'.count : Int), .bool M'.off, .int .i64 M'.fuse, .slice A2 n2 c2, .slice A3 n3 c3])) [5] [157, 158, 159, 160, 6] [([16], none, [0], false), ([18], none, [0], false), ([157, 158], none, [0], false), ([17], none, [0], false), ([159], none, [0], false), ([7, 160], none, [0], true)] 162 1 (by kernel_rfl) (by kernel_rfl) rfl trivial (by simp) ?h0 ?hreq ?hend
  case h0 =>
    intro t W hnd _
    unfold laG5
    split <;> first | rfl | trivial | exact absurd (by simp) hnd
  case hreq =>
    refine ⟨⟨?_, trivial⟩, ⟨?_, trivial⟩, ⟨?_, trivial⟩, ⟨?_, trivial⟩, ⟨?_, trivial⟩, ⟨?_, trivial⟩, trivial⟩
    all_goals
      intro ac W _ hI hk
      rw [if_pos rfl] at hI
      subst hI
      simp only [Gw.Knows, laG5] at hk
      try (simp [go_sem, Gw.POpReq, Gw.OkP, Gw.PPost, Gw.HoldsR, laG5, hk, p0, p1, p2, p3, p4]; done)
    obtain ⟨hk1, hk2, -⟩ := hk
    obtain ⟨w', hrun, h2, h3⟩ := run_store_blk (P := Try.prog) (w := wr.drew) (b := H + 1 + 1) (ty := 30) (vs := #[.int .i64 (M'.count : Int), .bool M'.off, .int .i64 M'.fuse, .slice A2 n2 c2, .slice A3 n3 c3]) HR2.out.drew rfl d_size (d_one _ _ _ _ _ _ _ _ _)
    exact Gw.ok_store rfl ((Gw.eval_slot ac 7).trans hk1) ((Gw.eval_slot ac 160).trans hk2) hrun ⟨trivial, ⟨h2, (out_drew _ _).trans h3⟩, trivial⟩
  case hend =>
    intro x' wF _ hI hx
    rw [if_neg (by simp)] at hI
    have h6 : x' 6 = .bool true := (hx 6 (by simp)) wF trivial
    have HI := Lib.hid hI
    clear hx hI
    simp only [Gw.putAll, Act.put, List.setIfInBounds_toArray, List.set_cons_zero, List.set_cons_succ]
    rw [h6]
    go_wp2
    obtain ⟨r0, r1, r2, r3, r4⟩ := HI.out.1.five
    refine bodyPost_ret (v := .tuple #[.bool true, .agg #[.int .i64 (M'.count : Int), .bool M'.off, .int .i64 M'.fuse, .slice A2 n2 c2, .slice A3 n3 c3]]) (by simp [results, Try.results10, go_sem, r0, r1, r2, r3, r4]) rfl ?_
    rw [HQ.out]
    have hb67 : Below w6.heap.size w6 wr := by rw [hX]; exact HB67.out
    exact does_fin (h3 := by omega) (hb7 := HB7.out) (h7 := fun h => by have h : w.heap.size + 1 = H + 1 + 1 := h; omega) (T := fun j => j = H + 1 + 1) HM5.out.1 (fun j hj => by
      rcases HM5.out.2.1 j hj with h | h
      · exact .inl h
      · exact .inr (by omega)) HM5.out.2.2.1 HM5.out.2.2.2.1 (HB6.out.trans (hb67.mono h56)) (HV6.out.past hb67) HI.out.2 (fun j hj => by
      refine ⟨by omega, by omega, fun ho => ?_⟩
      rcases HM5.out.2.1 j ho with h | h
      · have := HLT.out j h; omega
      · omega)
end Go.Proofs.Ytpdhnkmihlgdjaa
