/- ManifestRaw: of whatever bytes both slots have, the manifest that counts, or the error, is the document's. -/
import Derived.Test.YtcnmamdfiicdaaaAgree
import Derived.Test.YtcnmamdfiicdaaaZer
import Derived.Test.YtcnmamdfiicdaaaMfS
namespace Go.Proofs.Ytcnmamdfiicdaaa
open Go.RowKit Me Mf Rw Ds

theorem same_self (A A' : Option Addr) (n n' c c' : Nat) (m : ManD) (w : World) (h : ManAt w w.heap.size A n c m) (h' : ManAt w w.heap.size A' n' c' m) :
    Calls Try.prog 11 #[mval m.version m.next A n c, mval m.version m.next A' n' c'] w fun e w' => e = .returned (.bool true) ∧ Below w.heap.size w w' :=
  (msame_any A A' n n' c c' m m w h h').mono fun e w' ⟨b, he, hb, hw⟩ => ⟨by rw [he, hb.2 rfl], hw⟩
/-- Where the disk's memory lies: what was made first, or behind the slots' bytes. -/
def Apt (own : Nat → Prop) (B C : Nat) : Prop := ∀ k, own k → k < B ∨ C ≤ k
set_option maxRecDepth 100000 in
set_option maxHeartbeats 4000000 in
theorem mraw_law (z : Int) (A : Option Addr) (n c : Nat) (a : List UInt8) (A' : Option Addr) (n' c' : Nat) (b : List UInt8) (off : Bool) (w : World) (ha : a.length = n) (hb : b.length = n') (hr : Rd w w.heap.size A a) (hr' : Rd w w.heap.size A' b) :
    Calls Try.prog 7 #[.int .i64 z, .slice A n c, .slice A' n' c', .bool off] w fun e w' => e = .returned (.bool true) ∧ Below w.heap.size w w' := by
  obtain ⟨i0, hi0, hz0, hz1, hz2⟩ := info_parts u8_info
  have HL := Lib.hid ha
  have HR := Lib.hid hr
  have HL' := Lib.hid hb
  have HR' := Lib.hid hr'
  clear ha hr hb hr'
  have hway : (34 < z) ∨ (¬ 34 < z ∧ 2048 < n) ∨ (¬ 34 < z ∧ ¬ 2048 < n ∧ 2048 < n') ∨ (¬ 34 < z ∧ ¬ 2048 < n ∧ ¬ 2048 < n') := by omega
  rcases hway with h1 | ⟨h1, h2⟩ | ⟨h1, h2, h3⟩ | ⟨h1, h2, h3⟩
  · go_enter Try.func7, Try.ntmps7
    go_wp2_with (go_at_call 8; refine (awake_any _).mono ?_; rintro e w5 ⟨rfl, hb5⟩)
    go_ret
    exact ⟨rfl, hb5⟩
  · go_enter Try.func7, Try.ntmps7
    go_wp2_with (go_at_call 8; refine (awake_any _).mono ?_; rintro e w5 ⟨rfl, hb5⟩)
    go_ret
    exact ⟨rfl, hb5⟩
  · go_enter Try.func7, Try.ntmps7
    go_wp2_with (go_at_call 8; refine (awake_any _).mono ?_; rintro e w5 ⟨rfl, hb5⟩)
    go_ret
    exact ⟨rfl, hb5⟩
  by_cases hlow : z < 1
  · go_enter Try.func7, Try.ntmps7
    go_wp2_with fail
    refine (new_bad z (.inl hlow) w).mono ?_
    rintro e w1 ⟨rfl, rfl⟩
    go_wp2_with fail
    refine (mread_nil w).mono ?_
    rintro e w2 ⟨hb2, A2, n2, c2, rfl, -⟩
    have HB2 := Lib.hid (hb2.alloc hb2.size (.cells #[.int .u64 ((noMan.version : Nat) : Int), .int .u32 ((noMan.next : Nat) : Int), .slice A2 n2 c2] 28))
    clear hb2
    go_wp2_with fail
    refine (awake_any _).mono ?_
    rintro e w5 ⟨rfl, hb5⟩
    have HB5 := Lib.hid (HB2.out.trans (hb5.mono HB2.out.size))
    go_wp2
    go_ret
    exact ⟨rfl, HB5.out⟩
  obtain ⟨q, rfl⟩ : ∃ q : Nat, z = (q : Int) := ⟨z.toNat, by omega⟩
  have hq1 : 1 ≤ q := by omega
  have hq34 : q ≤ 34 := by omega
  obtain ⟨ka, hka⟩ : ∃ ka, ka = 2048 - n := ⟨_, rfl⟩
  obtain ⟨kb, hkb⟩ : ∃ kb, kb = 2048 - n' := ⟨_, rfl⟩
  have hn : n + ka = 2048 := by omega
  have hn' : n' + kb = 2048 := by omega
  have ea : (2048 : Int) - (n : Int) = (ka : Int) := by omega
  have eb : (2048 : Int) - (n' : Int) = (kb : Int) := by omega
  obtain ⟨l, hl⟩ : ∃ l, l = (a ++ List.replicate ka 0) ++ (b ++ List.replicate kb 0) := ⟨_, rfl⟩
  have HLL := Lib.hid (show l.length = 4096 by rw [hl]; simp only [List.length_append, List.length_replicate, HL.out, HL'.out]; omega)
  have HLE := Lib.hid hl
  have HN := Lib.hid hn
  have HN' := Lib.hid hn'
  clear hka hkb hl hn hn'
  go_enter Try.func7, Try.ntmps7
  go_wp2_with fail
  refine (dnew_any q hq1 (by omega) w).mono ?_
  rintro e w1 ⟨D, own, rfl, hd, hb1⟩
  have HD1 := Lib.hid hd
  have HB1 := Lib.hid hb1
  have HR1 := Lib.hid ((HR.out.below hb1).more hb1.size)
  have HR1' := Lib.hid ((HR'.out.below hb1).more hb1.size)
  have E1 := Lib.hid (own_empty w1 w1.heap.size 5 (Nat.le_refl _))
  have hB1 := Lib.hid (show Below w1.heap.size w1 (w1.alloc (.cells #[] 5)) from (Below.refl _ _).alloc (Nat.le_refl _) _)
  clear hd hb1
  go_wp2_with (first
    | (at_builtin; refine wpList_app rfl (.tmp 53) (.tmp 54) 22 rfl w1.heap.size 5 i0 _ Try.underlying22 hi0 hz0 hz1 hz2 rfl _ 0 _ rfl E1.out _ A n c a rfl HL.out (HR1.out.below hB1.out) (by omega) hB1.out.size ?_; intro v3 w3 ho3 hg3 _
       have O3 := Lib.hid ho3
       have hB3 := Lib.hid (show Below w1.heap.size w1 w3 from hB1.out.trans ⟨hg3.os, hg3.tape, hg3.output, hg3.size, fun k hk => hg3.block k (by have := hB1.out.size; omega) (fun e => by have := (E1.out.lt _ e.symm).1; omega)⟩)
       clear ho3 hg3)
    | (at_builtin; refine wpList_zeros rfl (.tmp 55) (.tmp 58) rfl w1.heap.size v3 (0 + n) ka ([] ++ a) rfl rfl O3.out (by omega) (by omega) hB3.out.size ?_; intro v4 w4 ho4 hg4
       have O4 := Lib.hid ho4
       have hB4 := Lib.hid (show Below w1.heap.size w1 w4 from hB3.out.trans ⟨hg4.os, hg4.tape, hg4.output, hg4.size, fun k hk => hg4.block k (by have := hB3.out.size; omega) (fun e => by have := (O3.out.lt _ e.symm).1; omega)⟩)
       have E4 := Lib.hid (own_empty w4 w4.heap.size 5 (Nat.le_refl _))
       have hB4' := Lib.hid (show Below w4.heap.size w4 (w4.alloc (.cells #[] 5)) from (Below.refl _ _).alloc (Nat.le_refl _) _)
       clear ho4 hg4)
    | (at_builtin; refine wpList_app rfl (.tmp 60) (.tmp 61) 22 rfl w4.heap.size 5 i0 _ Try.underlying22 hi0 hz0 hz1 hz2 rfl _ 0 _ rfl E4.out _ A' n' c' b rfl HL'.out ((HR1'.out.below hB4.out).below (hB4'.out.mono hB4.out.size)) (by omega) hB4'.out.size ?_; intro v5 w5 ho5 hg5 _
       have O5 := Lib.hid ho5
       have hB5 := Lib.hid (show Below w4.heap.size w4 w5 from hB4'.out.trans ⟨hg5.os, hg5.tape, hg5.output, hg5.size, fun k hk => hg5.block k (by have := hB4'.out.size; omega) (fun e => by have := (E4.out.lt _ e.symm).1; omega)⟩)
       clear ho5 hg5)
    | (at_builtin; refine wpList_zeros rfl (.tmp 62) (.tmp 65) rfl w4.heap.size v5 (0 + n') kb ([] ++ b) rfl rfl O5.out (by omega) (by omega) hB5.out.size ?_; intro v6 w6 ho6 hg6
       obtain ⟨A6, c6, e6, hc6⟩ := own_slice' ho6
       subst e6
       have O6 := Lib.hid ho6
       have hB6 := Lib.hid (show Below w4.heap.size w4 w6 from hB5.out.trans ⟨hg6.os, hg6.tape, hg6.output, hg6.size, fun k hk => hg6.block k (by have := hB5.out.size; omega) (fun e => by have := (O5.out.lt _ e.symm).1; omega)⟩)
       have O46 := Lib.hid (own_below' O4.out hB6.out)
       have hB16 := Lib.hid (hB4.out.trans (hB6.out.mono hB4.out.size))
       clear ho6 hg6)
    | (at_builtin; refine wpList_app rfl (.tmp 59) (.tmp 66) 22 rfl w1.heap.size 5 i0 _ Try.underlying22 hi0 hz0 hz1 hz2 rfl v4 (0 + n + ka) _ rfl O46.out _ A6 (0 + n' + kb) c6 _ rfl (by have h1 := HL'.out; simp [h1]) (Rd.of_own O6.out) (by have := HN.out; have := HN'.out; omega) hB16.out.size ?_; intro v7 w7 ho7 hg7 _
       have e4096 : 0 + n + ka + (0 + n' + kb) = 4096 := by have := HN.out; have := HN'.out; omega
       rw [e4096] at ho7
       rw [List.nil_append, List.nil_append, ← HLE.out] at ho7
       obtain ⟨g, c7, e7, hg1, hg2⟩ := ho7.form (by omega)
       subst e7
       have O7 := Lib.hid ho7
       have hB7 := Lib.hid (show Below w1.heap.size w1 w7 from hB16.out.trans ⟨hg7.os, hg7.tape, hg7.output, hg7.size, fun k hk => hg7.block k (by have := hB16.out.size; omega) (fun e => by have := (O46.out.lt _ e.symm).1; omega)⟩)
       clear ho7 hg7 e4096)
    | fail)
  have HD7 := Lib.hid (HD1.out.past (show Below w1.heap.size w1 w7 from hB7.out))
  have HB7 := Lib.hid (show Below w.heap.size w w7 from HB1.out.trans (hB7.out.mono HB1.out.size))
  have HAP := Lib.hid (show Apt own w1.heap.size w7.heap.size from fun k hk => .inl (HD1.out.lt hk).2)
  have hs17 := hB7.out.size
  have hs01 := HB1.out.size
  clear E1 hB1 O3 hB3 O4 hB4 E4 hB4' O5 hB5 O6 hB6 O46 hB16 hB7 HD1 HB1 HR1 HR1' ea eb
  clear HLE HN HN' HR HR' HL HL'
  go_loopw [14] (fun i wr => ∃ (k : Nat) (S : Dsk) (own' : Nat → Prop), k ≤ least32 q ∧ i = .int .i64 (k : Int) ∧ Hid (DiskAt wr w.heap.size D S own') ∧ Hid (S.on = true ∧ S.fuse = -1 ∧ S.stored.length = q ∧ S.pend.length = k) ∧ Hid (Apt own' w1.heap.size w7.heap.size) ∧ Hid (wr.ownsRow w1.heap.size 5 1 (.slice (some ⟨g, 0, none⟩) 4096 c7) 4096 (cellsOf l)) ∧ Hid (Below w.heap.size w wr) ∧ Hid (w7.heap.size ≤ wr.heap.size)) (fun i _ => 32 - (intOf i).toNat)
  case atStart => exact ⟨0, newD q, own, Nat.zero_le _, rfl, HD7, Lib.hid ⟨rfl, rfl, by simp [newD], rfl⟩, HAP, O7, HB7, Lib.hid (Nat.le_refl _)⟩
  case round =>
    clear HD7 HB7 HAP O7
    obtain ⟨k, S, own', hkl, rfl, HD, HS, HAP, O, HB, HSZ⟩ := hrel
    have hl32 := least32_le q
    by_cases hlt : k < least32 q
    · have hk32 : k < 32 := by omega
      have hkq : (k : Int) < (q : Int) := by omega
      obtain ⟨o, ho⟩ : ∃ o, o = 128 * k := ⟨_, rfl⟩
      have e1 : (128 : Int) * (k : Int) = (o : Int) := by omega
      have ho1 : o + 128 ≤ 4096 := by omega
      have hc7 : 4096 ≤ c7 := by
        obtain ⟨A8, c8, e8, h8⟩ := own_slice' O.out
        injection e8 with _ _ e8
        omega
      obtain ⟨u, hu⟩ : ∃ u, u = (l.drop o).take 128 := ⟨_, rfl⟩
      have HUL := Lib.hid (show u.length = 128 by rw [hu, List.length_take, List.length_drop, HLL.out]; omega)
      have HCZ := Lib.hid (show Cz wr own' (some ⟨g, o, none⟩) (cellsOf u) from fun _ => ⟨_, rfl, by have := (O.out.lt g rfl).2; exact this, fun hk => by
        rcases HAP.out g hk with h | h
        · omega
        · omega, fun i v hv => by
        rw [Addr.add_mid]
        have hi := (List.getElem?_eq_some_iff.1 hv).1
        rw [cellsOf_length, HUL.out] at hi
        have := O.out.cells (g := g) rfl (o + i) v (by
          rw [← hv, hu, cellsOf, cellsOf, List.getElem?_map, List.getElem?_map, List.getElem?_take, if_pos hi, List.getElem?_drop])
        rwa [Addr.add_mid, Nat.zero_add] at this⟩)
      clear hu hl32 hkl ho
      go_wp2_with fail
      refine (write_any HD.out (k : Int) _ 128 _ u HUL.out HCZ.out (fun a e => by injection e with e; rw [← e]) (by rw [HS.out.2.2.2]; omega)).mono ?_
      rw [writeD_ok HS.out.1 (by rw [HS.out.2.1]; omega) (by rw [HS.out.2.2.1]; omega) HUL.out]
      rintro e w8 ⟨rfl, own2, hd2, ho2, hn2⟩
      have HD2 := Lib.hid hd2
      have HS2 := Lib.hid (show ({ S with pend := S.pend ++ [⟨k, u⟩] } : Dsk).on = true ∧ ({ S with pend := S.pend ++ [⟨k, u⟩] } : Dsk).fuse = -1 ∧ ({ S with pend := S.pend ++ [⟨k, u⟩] } : Dsk).stored.length = q ∧ ({ S with pend := S.pend ++ [⟨k, u⟩] } : Dsk).pend.length = k + 1 from ⟨HS.out.1, HS.out.2.1, HS.out.2.2.1, by simp [HS.out.2.2.2]⟩)
      have hwr := HB.out.size
      have hgr := (O.out.lt g rfl).2
      have HAP2 := Lib.hid (show Apt own2 w1.heap.size w7.heap.size from fun j hj => by
        rcases hn2 j hj with h | h
        · exact HAP.out j h
        · exact .inr (Nat.le_trans HSZ.out h))
      have O2 := Lib.hid (own_out O.out ho2 fun j e hj => by
        have e' : some g = some j := e
        injection e' with e'
        subst e'
        rcases HAP.out _ hj with h | h <;> omega)
      have HB2 := Lib.hid (HB.out.trans (ho2.below (B := w.heap.size) (fun j _ hj => (HD.out.lt hj).1) HB.out.size))
      have HSZ2 := Lib.hid (Nat.le_trans HSZ.out ho2.size)
      clear hd2 ho2 hn2
      go_wp2
      go_roundw
      case rel => exact ⟨k + 1, _, own2, by omega, by go_num, HD2, HS2, HAP2, O2, HB2, HSZ2⟩
      case measure => simp [intOf]; omega
    · have hkE : k = least32 q := by omega
      have HFI := Lib.hid HD.out.good
      obtain ⟨T, Z, hT, hZ⟩ := slots_say S
      have HTT := Lib.hid hT
      have HZZ := Lib.hid hZ
      have HMD := Lib.hid (model_any HD.out (by rw [HS.out.2.2.2]; omega) HS.out.1)
      obtain ⟨M, hM⟩ : ∃ M, M = mdlR S := ⟨_, rfl⟩
      rw [← hM] at HMD
      have HMM := Lib.hid hM
      have HMW := Lib.hid (show M.wait.length = 0 by rw [hM]; rfl)
      have hway : (¬ k < 32) ∨ (k < 32 ∧ ¬ (k : Int) < (q : Int)) := by
        unfold least32 at hkE
        split at hkE <;> omega
      have hk32 : k ≤ 32 := by unfold least32 at hkE; split at hkE <;> omega
      clear hT hZ hM hkE hkl hlt hl32
      rcases hway with h32 | ⟨h32, hkq⟩
      all_goals
        go_wp2_with fail
        refine HMD.out.mono ?_
        rintro e w9 ⟨hb9, Am, nm, cm, rfl, hnm, hnm32, href⟩
        have HNM := Lib.hid hnm
        obtain ⟨wa, hwa⟩ : ∃ wa, wa = w9.alloc (.cells #[.int .i64 (M.count : Int), .bool M.off, .int .i64 M.fuse, .slice Am nm cm, .slice none 0 0] 51) := ⟨_, rfl⟩
        have HWA := Lib.hid hwa
        have hba : Below w9.heap.size w9 wa := by rw [hwa]; exact (Below.refl _ _).alloc (Nat.le_refl _) _
        have hb9a : Below wr.heap.size wr wa := hb9.trans (hba.mono hb9.size)
        have BXA := Lib.hid (show Blk wa w9.heap.size [.int .i64 (M.count : Int), .bool M.off, .int .i64 M.fuse, .slice Am nm cm, .slice none 0 0] by rw [hwa]; exact Blk.new w9 [.int .i64 (M.count : Int), .bool M.off, .int .i64 M.fuse, .slice Am nm cm, .slice none 0 0] _)
        have RFA := Lib.hid ((href.less (own' := fun j => own' j ∨ j = w9.heap.size) (fun j hj h => by rcases h with h | h; exact h; omega)).past hba)
        have HDA := Lib.hid (HD.out.past hb9a)
        have HBA := Lib.hid (HB.out.trans (hb9a.mono HB.out.size))
        have hs9 := hb9.size
        clear hb9 hba hb9a hnm href hwa HMD
        cases off with
        | false =>
          go_wp2_with fail
          rw [← HWA.out]
          clear HWA
          have HMP := Lib.hid (mread_any HDA.out (by rw [HS.out.2.2.2]; omega) (T := T) (Z := Z) HTT.out HZZ.out)
          obtain ⟨⟨pm, px⟩, hp⟩ : ∃ p, p = ansD S T Z := ⟨_, rfl⟩
          rw [← hp] at HMP
          have HPP := Lib.hid hp
          clear hp
          go_wp2_with fail
          refine HMP.out.mono ?_
          rintro e w11 ⟨hb11, A3, n3, c3, he, hm3⟩
          replace he : e = .returned (.tuple #[mval pm.version pm.next A3 n3 c3, .int .i64 px]) := he
          subst he
          obtain ⟨w12, hw12⟩ : ∃ w12, w12 = w11.alloc (.cells #[.int .u64 (pm.version : Int), .int .u32 (pm.next : Int), .slice A3 n3 c3] 28) := ⟨_, rfl⟩
          have HW12 := Lib.hid hw12
          have hb12 : Below w11.heap.size w11 w12 := by rw [hw12]; exact (Below.refl _ _).alloc (Nat.le_refl _) _
          have X12 := Lib.hid (show Blk w12 w11.heap.size [.int .u64 (pm.version : Int), .int .u32 (pm.next : Int), .slice A3 n3 c3] by rw [hw12]; exact Blk.new w11 [.int .u64 (pm.version : Int), .int .u32 (pm.next : Int), .slice A3 n3 c3] _)
          have hb912 : Below wa.heap.size wa w12 := hb11.trans (hb12.mono hb11.size)
          have HB12 := Lib.hid (HBA.out.trans (hb912.mono HBA.out.size))
          have HM12 := Lib.hid (show ManAt w12 w12.heap.size A3 n3 c3 pm from (hm3.past hb12))
          have BX12 := Lib.hid (BXA.out.past hb912)
          have RF12 := Lib.hid (RFA.out.past hb912)
          obtain ⟨k0, k1, k2, k3, k4⟩ := BX12.out.five
          rw [hw12] at k0 k1 k2 k3 k4
          clear hb11 hm3 hb12 hb912 hw12 HMP
          go_wp2_with fail
          rw [← HW12.out]
          clear k0 k1 k2 k3 k4
          refine (rread_any' (M := M) (T := T) (Z := Z) RF12.out HNM.out HMW.out (by omega) (by omega) (fun i => by rw [HMM.out]; exact readR_mdl_le HFI.out i) (fun _ k hk => by rw [HMM.out, slotR_mdl HS.out.1 (by omega) 16 (Nat.le_refl _)]; exact HTT.out k hk) (fun _ k hk => by rw [HMM.out, slotR_mdl HS.out.1 (by omega) 16 (Nat.le_refl _)]; exact HZZ.out k hk)).mono ?_
          rw [show ansR M T Z = ansD S T Z by rw [HMM.out]; exact ans_on HS.out.1 T Z, ← HPP.out]
          rintro e w13 ⟨hb13, A4, n4, c4, he, hm4⟩
          replace he : e = .returned (.tuple #[mval pm.version pm.next A4 n4 c4, .int .i64 px]) := he
          subst he
          obtain ⟨w14, hw14⟩ : ∃ w14, w14 = w13.alloc (.cells #[.int .u64 (pm.version : Int), .int .u32 (pm.next : Int), .slice A4 n4 c4] 28) := ⟨_, rfl⟩
          have HW14 := Lib.hid hw14
          have hb14 : Below w13.heap.size w13 w14 := by rw [hw14]; exact (Below.refl _ _).alloc (Nat.le_refl _) _
          have hb124 : Below w12.heap.size w12 w14 := hb13.trans (hb14.mono hb13.size)
          have X14 := Lib.hid (X12.out.past hb124)
          have Y14 := Lib.hid (show Blk w14 w13.heap.size [.int .u64 (pm.version : Int), .int .u32 (pm.next : Int), .slice A4 n4 c4] by rw [hw14]; exact Blk.new w13 [.int .u64 (pm.version : Int), .int .u32 (pm.next : Int), .slice A4 n4 c4] _)
          have HB14 := Lib.hid (HB12.out.trans (hb124.mono HB12.out.size))
          have HM14 := Lib.hid (HM12.out.past hb124)
          have HN14 := Lib.hid (show ManAt w14 w14.heap.size A4 n4 c4 pm from (hm4.past hb14))
          have x0 := X14.out.cell (i := 0) rfl
          have x1 := X14.out.cell (i := 1) rfl
          have x2 := X14.out.cell (i := 2) rfl
          have y0 := Y14.out.cell (i := 0) rfl
          have y1 := Y14.out.cell (i := 1) rfl
          have y2 := Y14.out.cell (i := 2) rfl
          have hlt := X12.out.lt
          rw [hw14] at x0 x1 x2 y0 y1 y2
          clear hb13 hm4 hb14 hb124 hw14 HW12
          go_wp2_with fail
          rw [← HW14.out]
          refine (same_self A3 A4 n3 n4 c3 c4 pm w14 HM14.out HN14.out).mono ?_
          rintro e w15 ⟨rfl, hb15⟩
          have HB15 := Lib.hid (HB14.out.trans (hb15.mono HB14.out.size))
          have dpx : (px == px) = true := beq_self_eq_true px
          clear x0 x1 x2 y0 y1 y2 hb15 HW14
          go_wp2_with (go_at_call 8; refine (awake_any _).mono ?_; rintro e w16 ⟨rfl, hb16⟩; have HB16 := Lib.hid (HB15.out.trans (hb16.mono HB15.out.size)); clear hb16)
          go_ret
          exact ⟨rfl, HB16.out⟩
        | true =>
          go_wp2_with fail
          rw [← HWA.out]
          clear HWA
          refine (off_any HDA.out).mono ?_
          rintro e wb ⟨rfl, own3, hd3, ho3, hn3⟩
          have hnb : ¬ own' w9.heap.size := fun h => by have := (HD.out.lt h).2; omega
          have h9a := BXA.out.lt
          have hn15 : ∀ j, own3 j → ¬ j = w9.heap.size := fun j hj e => by
            rcases hn3 j hj with h | h
            · exact hnb (e ▸ h)
            · omega
          have BXB := Lib.hid (BXA.out.out ho3 hnb)
          have RFB := Lib.hid (RFA.out.out (ho3.more (S' := fun j => own' j ∨ j = w9.heap.size) fun j _ h => .inl h))
          have HBB := Lib.hid (HBA.out.trans (ho3.below (B := w.heap.size) (fun j _ hj => (HDA.out.lt hj).1) HBA.out.size))
          have hba2 := ho3.size
          have oc : Out (fun j => j = w9.heap.size) wb (wb.setCell ⟨w9.heap.size, 1, none⟩ (.bool true)) := (Out.refl (fun j => j = w9.heap.size) wb).setCell (p := ⟨w9.heap.size, 1, none⟩) (.inl rfl) (.bool true)
          have HDC := Lib.hid (hd3.out oc hn15)
          have BXC := Lib.hid (show Blk (wb.setCell ⟨w9.heap.size, 1, none⟩ (.bool true)) w9.heap.size [.int .i64 (M.count : Int), .bool true, .int .i64 M.fuse, .slice Am nm cm, .slice none 0 0] from BXB.out.set 1 (.bool true))
          have RFC := Lib.hid (show RefAt (wb.setCell ⟨w9.heap.size, 1, none⟩ (.bool true)) (fun j => own' j ∨ j = w9.heap.size) (offR M) Am cm none 0 by
            have h := RFB.out.out (oc.more (S' := fun j => own' j ∨ j = w9.heap.size) fun j _ h => .inr h)
            exact ⟨h.made, h.wait, h.cm, h.cw⟩)
          have HBC := Lib.hid (HBB.out.trans (oc.below (B := w.heap.size) (fun j _ hj => by have := HBA.out.size; have := HB.out.size; omega) HBB.out.size))
          obtain ⟨wc, hwc⟩ : ∃ wc, wc = wb.setCell ⟨w9.heap.size, 1, none⟩ (.bool true) := ⟨_, rfl⟩
          rw [← hwc] at HDC BXC RFC HBC
          have HWC := Lib.hid hwc
          obtain ⟨T', Z', hT', hZ'⟩ := slots_say { S with on := false }
          have HTT' := Lib.hid hT'
          have HZZ' := Lib.hid hZ'
          have k1 := BXB.out.cell (i := 1) rfl
          have f1 := BXB.out.frozen 1
          clear hd3 ho3 hn3 oc hwc hT' hZ' hn15 hnb RFB HBB BXB
          go_wp2_with fail
          rw [← HWC.out]
          clear HWC k1 f1
          have HMP := Lib.hid (mread_any HDC.out (by rw [show ({ S with on := false } : Dsk).pend.length = k from HS.out.2.2.2]; omega) (T := T') (Z := Z') HTT'.out HZZ'.out)
          obtain ⟨⟨pm, px⟩, hp⟩ : ∃ p, p = ansD { S with on := false } T' Z' := ⟨_, rfl⟩
          rw [← hp] at HMP
          have HPP := Lib.hid hp
          clear hp
          refine HMP.out.mono ?_
          rintro e w11 ⟨hb11, A3, n3, c3, he, hm3⟩
          replace he : e = .returned (.tuple #[mval pm.version pm.next A3 n3 c3, .int .i64 px]) := he
          subst he
          obtain ⟨w12, hw12⟩ : ∃ w12, w12 = w11.alloc (.cells #[.int .u64 (pm.version : Int), .int .u32 (pm.next : Int), .slice A3 n3 c3] 28) := ⟨_, rfl⟩
          have HW12 := Lib.hid hw12
          have hb12 : Below w11.heap.size w11 w12 := by rw [hw12]; exact (Below.refl _ _).alloc (Nat.le_refl _) _
          have X12 := Lib.hid (show Blk w12 w11.heap.size [.int .u64 (pm.version : Int), .int .u32 (pm.next : Int), .slice A3 n3 c3] by rw [hw12]; exact Blk.new w11 [.int .u64 (pm.version : Int), .int .u32 (pm.next : Int), .slice A3 n3 c3] _)
          have hb912 : Below wc.heap.size wc w12 := hb11.trans (hb12.mono hb11.size)
          have HB12 := Lib.hid (HBC.out.trans (hb912.mono HBC.out.size))
          have HM12 := Lib.hid (show ManAt w12 w12.heap.size A3 n3 c3 pm from (hm3.past hb12))
          have BX12 := Lib.hid (BXC.out.past hb912)
          have RF12 := Lib.hid (RFC.out.past hb912)
          obtain ⟨k0, k1, k2, k3, k4⟩ := BX12.out.five
          rw [hw12] at k0 k1 k2 k3 k4
          clear hb11 hm3 hb12 hb912 hw12 HMP
          go_wp2_with fail
          rw [← HW12.out]
          clear k0 k1 k2 k3 k4
          refine (rread_any' (M := offR M) (T := T') (Z := Z') RF12.out HNM.out HMW.out (by omega) (by omega) (fun i => by unfold readR; rw [show readER (offR M) i = 6 from rfl]; exact Nat.zero_le _) (fun h => by cases h) (fun h => by cases h)).mono ?_
          rw [show ansR (offR M) T' Z' = ansD { S with on := false } T' Z' by rw [HMM.out]; exact ans_off _ _ _ _, ← HPP.out]
          rintro e w13 ⟨hb13, A4, n4, c4, he, hm4⟩
          replace he : e = .returned (.tuple #[mval pm.version pm.next A4 n4 c4, .int .i64 px]) := he
          subst he
          obtain ⟨w14, hw14⟩ : ∃ w14, w14 = w13.alloc (.cells #[.int .u64 (pm.version : Int), .int .u32 (pm.next : Int), .slice A4 n4 c4] 28) := ⟨_, rfl⟩
          have HW14 := Lib.hid hw14
          have hb14 : Below w13.heap.size w13 w14 := by rw [hw14]; exact (Below.refl _ _).alloc (Nat.le_refl _) _
          have hb124 : Below w12.heap.size w12 w14 := hb13.trans (hb14.mono hb13.size)
          have X14 := Lib.hid (X12.out.past hb124)
          have Y14 := Lib.hid (show Blk w14 w13.heap.size [.int .u64 (pm.version : Int), .int .u32 (pm.next : Int), .slice A4 n4 c4] by rw [hw14]; exact Blk.new w13 [.int .u64 (pm.version : Int), .int .u32 (pm.next : Int), .slice A4 n4 c4] _)
          have HB14 := Lib.hid (HB12.out.trans (hb124.mono HB12.out.size))
          have HM14 := Lib.hid (HM12.out.past hb124)
          have HN14 := Lib.hid (show ManAt w14 w14.heap.size A4 n4 c4 pm from (hm4.past hb14))
          have x0 := X14.out.cell (i := 0) rfl
          have x1 := X14.out.cell (i := 1) rfl
          have x2 := X14.out.cell (i := 2) rfl
          have y0 := Y14.out.cell (i := 0) rfl
          have y1 := Y14.out.cell (i := 1) rfl
          have y2 := Y14.out.cell (i := 2) rfl
          have hlt := X12.out.lt
          rw [hw14] at x0 x1 x2 y0 y1 y2
          clear hb13 hm4 hb14 hb124 hw14 HW12
          go_wp2_with fail
          rw [← HW14.out]
          refine (same_self A3 A4 n3 n4 c3 c4 pm w14 HM14.out HN14.out).mono ?_
          rintro e w15 ⟨rfl, hb15⟩
          have HB15 := Lib.hid (HB14.out.trans (hb15.mono HB14.out.size))
          have dpx : (px == px) = true := beq_self_eq_true px
          clear x0 x1 x2 y0 y1 y2 hb15 HW14
          go_wp2_with (go_at_call 8; refine (awake_any _).mono ?_; rintro e w16 ⟨rfl, hb16⟩; have HB16 := Lib.hid (HB15.out.trans (hb16.mono HB15.out.size)); clear hb16)
          go_ret
          exact ⟨rfl, HB16.out⟩
open Go.ChangeShapes Go.WideShapes Go.ChangeAt Go.Joins
set_option maxRecDepth 100000 in
theorem manifestRaw_lifted (os : Os) (started : os.Started) (H : Type) (enc : TypeId × Value → H) :
    ReturnsInHanded {} Try.checked os 7 .any (Rows.manifestRawSpec.pre6 enc Try.prog Try.f7 Rows.manifestRawRow.domain false) (Rows.manifestRawSpec.post enc Try.prog Try.f7 false true false false) := by
  refine returnsInHanded_of_change (C := Try.checked) own started (by kernel_rfl) Try.func7
    (ChangeSpec.witness6 (enc := enc) (C := Try.checked) false ⟨#[], #[.int .i64 0, .slice none 0 0, .slice none 0 0, .bool false], []⟩ 8 (by kernel_rfl) (by kernel_rfl) (by kernel_rfl) (by kernel_rfl)) ?_
  intro W base args ds gs before hval0 hW hcnd _
  have hval : ∀ (j : Nat) t v, Try.f7.params[j]? = some t → args[j]? = some v → Value.okWide Try.prog W .any base t v := hval0
  have hW' := hW
  obtain ⟨p, q, hA0, hV, rfl, hfz, hnd⟩ := hW
  have hA : DataW.TrodAll enc Try.prog W 0 (fun _ => true) true Try.f7.params.toList args.toList ds p := hA0
  rw [Try.params7] at hA hval
  obtain ⟨v0, v1, v2, v3, d0, d1, d2, d3, p0, p1, p2, p3, rfl, rfl, rfl, h0, h1, h2, h3⟩ := trodAll_four hA
  obtain ⟨z, rfl, -, -, -⟩ := open_int Try.underlying3 (hval 0 3 v0 rfl rfl) h0
  obtain ⟨A, n, c, a, rfl, ha, -, -, hra⟩ := open_bytes Try.underlying22 Try.underlying5 cells_u8 (hval 1 22 v1 rfl rfl) h1
  obtain ⟨A', n', c', b, rfl, hb, -, -, hrb⟩ := open_bytes Try.underlying22 Try.underlying5 cells_u8 (hval 2 22 v2 rfl rfl) h2
  obtain ⟨off, rfl, -, -⟩ := open_bool Try.underlying4 (hval 3 4 v3 rfl rfl) h3
  have hwalk : Calls Try.prog 7 #[.int .i64 z, .slice A n c, .slice A' n' c', .bool off] W fun e w' => e = .returned (.bool true) ∧ Below W.heap.size W w' := by
    exact mraw_law z A n c a A' n' c' b off W ha hb hra hrb
  refine hwalk.mono fun e W' ⟨he, hb⟩ => ?_
  subst he
  exact ⟨_, rfl, Lw.post_true laidOut (by kernel_rfl) rfl rfl rfl rfl (by kernel_rfl) Try.underlying4 hW' hb⟩

/-- ManifestRaw: of whatever bytes both slots have, the manifest that counts, or the error, is the document's. -/
theorem manifestRaw_holds : Rows.ManifestRawSaid :=
  OpenClaim.holds_of_wide 7 Try.f7 rfl rfl rfl rfl rfl rfl rfl ⟨rfl, rfl, rfl, rfl, rfl⟩ rfl rfl rfl rfl rfl (by kernel_rfl) Try.func7 (by kernel_rfl)
    (of_decide_eq_true (by kernel_rfl)) (by unfold Func.isWrapper; rw [if_neg (of_decide_eq_false (by kernel_rfl))]; exact ⟨rfl, rfl⟩)
    (fun os started H enc _ => manifestRaw_lifted os started H enc)
#print axioms manifestRaw_holds
end Go.Proofs.Ytcnmamdfiicdaaa

