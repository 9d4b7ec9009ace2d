/- Whether a slot has a manifest of mixed bytes, as the document asks. -/
import Derived.Test.YtcnmamdfiicdaaaRPut
import Derived.Test.YtcnmamdfiicdaaaAgree
namespace Go.Proofs.Ytcnmamdfiicdaaa
open Go.RowKit Me Mf Rw Ds

/-- A string, not reckoned. -/
def strQ (l : List UInt8) : Value := .string ⟨l.toArray⟩
theorem sv_neq (l m : List UInt8) (b : Bool) (hb : (!(l == m)) = b) (W : World) : (binOp .neq 9 (strQ l) (strQ m)).run Try.prog W = .ok (.bool b) W := by
  subst hb
  unfold strQ
  simp [go_sem]
theorem sv_guard (x y : Operand) (l m : List UInt8) (W : World) : (eqGuard .neq 9 x y (strQ l) (strQ m)).run Try.prog W = .ok () W := by
  unfold strQ
  simp [go_sem, eqGuard]
/-- What is known of each slot of the region that compares. -/
def mixG (xs e1 e2 : Bool) (A1 : Option Addr) (t1 c1 : Nat) (b ah sm : List UInt8) (H : Nat) (mv : Value) : Gw.Fact := fun t v w =>
  match t with
  | 11 | 20 | 21 => v = .bool xs
  | 9 => v = .slice A1 t1 c1
  | 2 => v = strQ ah
  | 7 => v = .pointer (some ⟨H, 0, none⟩)
  | 22 => xs = true → v = .slice A1 t1 c1
  | 23 => xs = true → v = strQ b
  | 24 => xs = true → v = strQ ah
  | 25 => xs = true → v = .bool e1
  | 26 | 27 => v = .bool (xs && e1)
  | 28 => (xs && e1) = true → v = .slice A1 t1 c1
  | 29 => (xs && e1) = true → v = strQ b
  | 30 => (xs && e1) = true → v = mv
  | 31 => (xs && e1) = true → ∃ X, (∃ cx, v = .slice X 2048 cx) ∧ Rd w w.heap.size X sm
  | 32 => (xs && e1) = true → v = strQ sm
  | 33 => (xs && e1) = true → v = .bool e2
  | 34 | 8 => v = .bool (xs && e1 && e2)
  | _ => True
/-- The answer. -/
def MixPost (w : World) (b ah sm : List UInt8) (x : Option ManD) (e : Ending) (w' : World) : Prop :=
  Below w.heap.size w w' ∧ ∃ mx : Bool, e = .returned (.bool mx) ∧ (mx = false → x.isSome = true → b = ah ∨ b = sm)
set_option maxRecDepth 100000 in
set_option maxHeartbeats 4000000 in
theorem rmixed_any {own : Nat → Prop} {w : World} {M : RefM} {Am Aw : Option Addr} {nm cm nw cw : Nat} (h : RefAt w own M Am cm Aw cw) (hm : M.made.length = nm) (hw : M.wait.length = nw) (hnm : nm ≤ 4611686018427387904) (hnw : nw ≤ 4611686018427387904) (hb : ∀ i, (readR M i).length ≤ 128)
    (k : Nat) (hk : k ≤ 1) (ah : List UInt8) (A : Option Addr) (n c : Nat) (m : ManD) (hM : ManAt w w.heap.size A n c m) (hf : Fit m) (x : Option ManD) (hx : Says (slotR M k 16) x) :
    Calls Try.prog 23 #[.agg #[.int .i64 (M.count : Int), .bool M.off, .int .i64 M.fuse, .slice Am nm cm, .slice Aw nw cw], .int .i64 (k : Int), sv ah, mval m.version m.next A n c] w (MixPost w (slotR M k 16) ah (slotOf m) x) := by
  obtain ⟨H, hH⟩ : ∃ H, H = w.heap.size := ⟨_, rfl⟩
  obtain ⟨b, hbb⟩ : ∃ b, b = slotR M k 16 := ⟨_, rfl⟩
  obtain ⟨sm, hsm⟩ : ∃ sm, sm = slotOf m := ⟨_, rfl⟩
  have HSL := Lib.hid (fun (W : World) (hB : Below w.heap.size w W) => rslot_any (h.past hB) hm hw hnm hnw hb k hk)
  rw [← hbb] at HSL hx ⊢
  rw [← hsm]
  have HSM := Lib.hid (show sm.length = 2048 by rw [hsm]; exact slotOf_length hf)
  have HRP := Lib.hid (fun (W : World) (hB : Below w.heap.size w W) => rputm_any A n c m W hf (hM.past hB))
  rw [← hsm] at HRP
  have HX := Lib.hid hx
  obtain ⟨w0, hw0⟩ : ∃ w0, w0 = (w.alloc (.cells #[.int .i64 (M.count : Int), .bool M.off, .int .i64 M.fuse, .slice Am nm cm, .slice Aw nw cw] 51)) := ⟨_, rfl⟩
  obtain ⟨w1, hw1⟩ : ∃ w1, w1 = w0.alloc (.cells #[.int .u64 (m.version : Int), .int .u32 (m.next : Int), .slice A n c] 28) := ⟨_, rfl⟩
  have HW1 := Lib.hid (show w1 = _ from hw0 ▸ hw1)
  have hb0 : Below w.heap.size w w0 := by rw [hw0]; exact (Below.refl _ _).alloc (Nat.le_refl _) _
  have hb1 : Below w0.heap.size w0 w1 := by rw [hw1]; exact (Below.refl _ _).alloc (Nat.le_refl _) _
  have hs0 : w0.heap.size = H + 1 := by rw [hw0, hH]; simp
  have HB1 := Lib.hid (hb0.trans (hb1.mono hb0.size))
  have D1 := Lib.hid (show Blk w1 H [.int .i64 (M.count : Int), .bool M.off, .int .i64 M.fuse, .slice Am nm cm, .slice Aw nw cw] by
    have : Blk w0 w.heap.size [.int .i64 (M.count : Int), .bool M.off, .int .i64 M.fuse, .slice Am nm cm, .slice Aw nw cw] := by rw [hw0]; exact Blk.new w [.int .i64 (M.count : Int), .bool M.off, .int .i64 M.fuse, .slice Am nm cm, .slice Aw nw cw] _
    rw [hH]; exact this.past hb1)
  have K1 := Lib.hid (show Blk w1 (H + 1) [.int .u64 (m.version : Int), .int .u32 (m.next : Int), .slice A n c] by rw [hw1]; exact Blk.new' w0 [.int .u64 (m.version : Int), .int .u32 (m.next : Int), .slice A n c] _ hs0)
  have HH := Lib.hid hH
  have q := D1.out.five
  obtain ⟨q0, q1, q2, q3, q4⟩ := q
  rw [hw1, hw0, hH] at q0 q1 q2 q3 q4
  clear hH hbb hsm h hm hw hb hx hf hM hw0 hw1 hb0 hb1 hs0 hnm hnw
  go_enter Try.func23, Try.ntmps23
  go_wp2_with fail
  rw [← HW1.out, ← HH.out]
  clear HW1 q0 q1 q2 q3 q4
  refine (HSL.out w1 HB1.out).mono ?_
  rintro e w2 ⟨hb2, A1, t1, c1, rfl, hl1, hc1, hcc1, ht1, hr1⟩
  have HB2 := Lib.hid (HB1.out.trans (hb2.mono HB1.out.size))
  have K2 := Lib.hid (K1.out.past hb2)
  have HL1 := Lib.hid hl1
  have HR1 := Lib.hid hr1
  clear hb2 hl1 hr1
  go_wp2_with fail
  refine (rget_any A1 t1 c1 b w2 HL1.out hc1 hcc1 HR1.out).mono ?_
  rintro e w3 ⟨hb3, h3⟩
  have HB3 := Lib.hid (HB2.out.trans (hb3.mono HB2.out.size))
  have K3 := Lib.hid (K2.out.past hb3)
  have HR3 := Lib.hid ((HR1.out.below hb3).more hb3.size)
  obtain ⟨xs, v3, x3, A3, n3, c3, he, hxs⟩ : ∃ (xs : Bool) (v3 x3 : Nat) (A3 : Option Addr) (n3 c3 : Nat), e = .returned (.tuple #[mval v3 x3 A3 n3 c3, .bool xs]) ∧ xs = x.isSome := by
    rcases h3 with ⟨m1, A3, n3, c3, hg, he, -, -⟩ | ⟨hno, he⟩
    · exact ⟨true, m1.version, m1.next, A3, n3, c3, he, by rw [HX.out.get hg]; rfl⟩
    · exact ⟨false, 0, 0, none, 0, 0, he, by rw [HX.out.no hno]; rfl⟩
  subst he
  have HXS := Lib.hid hxs
  obtain ⟨w4, hw4⟩ : ∃ w4, w4 = w3.alloc (.cells #[.int .u64 (v3 : Int), .int .u32 (x3 : Int), .slice A3 n3 c3] 28) := ⟨_, rfl⟩
  have HW4 := Lib.hid hw4
  have hb4 : Below w3.heap.size w3 w4 := by rw [hw4]; exact (Below.refl _ _).alloc (Nat.le_refl _) _
  have HB4 := Lib.hid (HB3.out.trans (hb4.mono HB3.out.size))
  have K4 := Lib.hid (K3.out.past hb4)
  have HR4 := Lib.hid ((HR3.out.below hb4).more hb4.size)
  clear hb3 h3 hw4 hb4 hxs K1 K2 K3 HB1 HB2 HR1 HR3 D1
  go_upto_region 3 with fail
  rw [← HW4.out]
  clear HW4
  obtain ⟨e1, he1⟩ : ∃ e1, (!(b == ah)) = e1 := ⟨_, rfl⟩
  obtain ⟨e2, he2⟩ : ∃ e2, (!(b == sm)) = e2 := ⟨_, rfl⟩
  have HE1 := Lib.hid he1
  have HE2 := Lib.hid he2
  clear he1 he2
  refine Gw.wp_region_grow (mixG xs e1 e2 A1 t1 c1 b ah sm (H + 1) (mval m.version m.next A n c)) [20, 21, 22, 23, 24, 25, 26, 27, 28, 29, 30, 31, 32, 33, 34, 8] [([11], none), ([20], none), ([9, 21], some (21, true)), ([22, 21], some (21, true)), ([2, 21], some (21, true)), ([23, 24, 21], some (21, true)), ([21, 25], none), ([26], none), ([9, 27], some (27, true)), ([28, 27], some (27, true)), ([7, 27], some (27, true)), ([30, 27], some (27, true)), ([31, 27], some (27, true)), ([29, 32, 27], some (27, true)), ([27, 33], none), ([34], none)] 35 (by kernel_rfl) (by kernel_rfl) rfl ?h0 ?hreq ?hend
  case h0 =>
    intro t W hnd _
    unfold mixG
    split <;> first | rfl | trivial | exact absurd (by simp) hnd
  case hreq =>
    refine ⟨?_, ?_, ?_, ?_, ?_, ?_, ?_, ?_, ?_, ?_, ?_, ?_, ?_, ?_, ?_, ?_, trivial⟩
    all_goals
      intro ac W hg hk
      have k1 : (convert 22 9 (.slice A1 t1 c1)).run Try.prog W = .ok (strQ b) W := str_any A1 t1 c1 b W _ HL1.out (HR4.out.below hg)
      have n1 := sv_neq b ah e1 HE1.out W
      have n2 := sv_neq b sm e2 HE2.out W
      have K5 := K4.out.past (show Below w4.heap.size w4 W from hg)
      have i0 := K5.cell (i := 0) rfl
      have i1 := K5.cell (i := 1) rfl
      have i2 := K5.cell (i := 2) rfl
      simp only [Gw.Knows, mixG] at hk
      try (cases xs <;> cases e1 <;> (simp [go_sem, Gw.OpReq, Gw.Ok, Gw.Post, Gw.Holds, mixG, Gw.Grows.refl, hk, k1, n1, n2, i0, i1, i2, sv_guard, mval]; done))
    · cases xs with
      | false => simp [Gw.OpReq, Gw.Post, Gw.Holds, mixG, hk]
      | true => cases e1 with
        | false => simp [Gw.OpReq, Gw.Post, Gw.Holds, mixG, hk]
        | true =>
          simp [go_sem, Gw.OpReq, Gw.Ok, Gw.Post, Gw.Holds, mixG, Gw.Grows.refl, hk]
          refine (HRP.out W (HB4.out.trans (Below.mono (show Below w4.heap.size w4 W from hg) HB4.out.size))).mono ?_
          rintro e w5 ⟨v, rfl, ho5, hb5⟩
          obtain ⟨X, cx, rfl, -⟩ := own_slice' ho5
          exact ⟨_, rfl, hb5, fun W2 hW2 => ⟨X, ⟨cx, rfl⟩, ((Rd.of_own ho5).below hW2).more (Below.size hW2)⟩⟩
    · cases xs with
      | false => simp [Gw.OpReq, Gw.Post, Gw.Holds, mixG, hk]
      | true => cases e1 with
        | false => simp [Gw.OpReq, Gw.Post, Gw.Holds, mixG, hk]
        | true =>
          obtain ⟨⟨X, ⟨cx, he⟩, hr5⟩, hk2⟩ : (∃ X, (∃ cx, _ = Value.slice X 2048 cx) ∧ Rd W W.heap.size X sm) ∧ _ := ⟨hk.1 rfl, hk.2⟩
          have k3 : (convert 22 9 (.slice X 2048 cx)).run Try.prog W = .ok (strQ sm) W := str_any X 2048 cx sm W _ HSM.out hr5
          simp [go_sem, Gw.OpReq, Gw.Ok, Gw.Post, Gw.Holds, mixG, Gw.Grows.refl, he, k3, hk2]
  case hend =>
    intro x' w' hg hx'
    have h8 := (hx' 8 (by simp)).now
    have HB9 := Lib.hid (HB4.out.trans (Below.mono (show Below w4.heap.size w4 w' from hg) HB4.out.size))
    clear hx' hg
    simp only [Gw.putAll, Act.put, List.setIfInBounds_toArray, List.set_cons_zero, List.set_cons_succ]
    rw [show x' 8 = .bool (xs && e1 && e2) from h8]
    go_wp2
    go_ret
    refine ⟨HB9.out, _, rfl, fun hmx hsome => ?_⟩
    rw [← HXS.out] at hsome
    subst hsome
    rw [← HE1.out, ← HE2.out] at hmx
    simp at hmx
    by_cases hba : b = ah
    · exact .inl hba
    · exact .inr (hmx hba)
end Go.Proofs.Ytcnmamdfiicdaaa
