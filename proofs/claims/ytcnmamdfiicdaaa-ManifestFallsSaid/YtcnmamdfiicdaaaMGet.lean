/- The manifest with whose bytes bytes begin, the program's. -/
import Derived.Test.YtcnmamdfiicdaaaMfN
import Derived.Test.YtcnmamdfiicdaaaMfP
import Derived.Test.YtcnmamdfiicdaaaFrms
namespace Go.Proofs.Ytcnmamdfiicdaaa
open Go.RowKit Me Mf Va Fr

/-- What getting a manifest answers. -/
def GMPost (w : World) (b : List UInt8) (okv errv : Value) (e : Ending) (w' : World) : Prop :=
  Below w.heap.size w w' ∧ ((∃ m A n c, GetsM b m ∧ e = .returned (.tuple #[mval m.version m.next A n c, okv]) ∧ ManAt w' w'.heap.size A n c m ∧ n ≤ 2097153) ∨ ((∀ m, ¬ GetsM b m) ∧ e = .returned (.tuple #[.agg #[.int .u64 0, .int .u32 0, .slice none 0 0], errv])))
theorem countOf_enc : ∀ l : List FileD, countOf l ≤ (encFs l).length
  | [] => Nat.le_refl _
  | f :: l => by
    have h1 := countOf_enc l
    have h2 := (encF_length f).2.2
    unfold countOf allBlocks at *
    simp only [List.flatMap_cons, List.length_append, encFs]
    omega
theorem small_of_body {m : ManD} (h : (body m).length ≤ 1048576) : Small m := by
  have h1 := body_length m
  have h2 := encFs_length m.files
  have h3 := countOf_enc m.files
  exact ⟨by omega, by omega, by omega⟩
theorem not_gets {b : List UInt8} {s : SecD} {k : Nat} {x : Int} (hs : getS b = (s, k, x)) (h : x ≠ 0 ∨ s.kind ≠ 77) : ∀ m, ¬ GetsM b m := fun m ⟨⟨k', e⟩, _, _⟩ => by
  rw [hs] at e
  injection e with e1 e2
  injection e2 with _ e2
  rcases h with h | h
  · exact h e2
  · exact h (by rw [e1])
theorem end_zero {l : List UInt8} {x : Int} (h : endOf l x = 0) : x = 0 ∧ l = [] := by
  unfold endOf at h
  split at h
  · cases h
  · rename_i hn
    refine ⟨h, ?_⟩
    cases l with
    | nil => rfl
    | cons a t => exact absurd ⟨h, by simp⟩ hn
set_option maxRecDepth 100000 in
set_option maxHeartbeats 2000000 in
theorem mget_any (A : Option Addr) (n c : Nat) (b : List UInt8) (w : World) (hb : b.length = n) (hc : n ≤ c) (hc63 : c ≤ 9223372036854775807) (hr : Rd w w.heap.size A b) :
    Calls Try.prog 9 #[.slice A n c] w (GMPost w b (.int .i64 0) (.int .i64 5)) := by
  obtain ⟨s, k, x, hs⟩ : ∃ s k x, getS b = (s, k, x) := ⟨_, _, _, rfl⟩
  have HS := Lib.hid hs
  have HBB := Lib.hid hb
  obtain ⟨H, hH⟩ : ∃ H, H = w.heap.size := ⟨_, rfl⟩
  obtain ⟨wz, hwz⟩ : ∃ wz, wz = w.alloc (.cells #[.int .u64 0, .int .u32 0, .slice none 0 0] 28) := ⟨_, rfl⟩
  have HWZ := Lib.hid hwz
  have HB0 := Lib.hid (show Below w.heap.size w wz by rw [hwz]; exact (Below.refl _ _).alloc (Nat.le_refl _) _)
  have HR0 := Lib.hid ((hr.below HB0.out).more HB0.out.size)
  have RS0 := Lib.hid (show Blk wz H [.int .u64 0, .int .u32 0, .slice none 0 0] by rw [hwz, hH]; exact Blk.new w [.int .u64 0, .int .u32 0, .slice none 0 0] _)
  have HHW := Lib.hid hH
  have hwH : w.heap.size ≤ H := by omega
  clear hs hb hwz hH hr
  go_enter Try.func9, Try.ntmps9
  go_wp2_with fail
  rw [← HWZ.out, ← HHW.out]
  clear HWZ
  refine (fget_any A n c b wz HBB.out hc hc63 HR0.out).mono ?_
  rw [HS.out]
  obtain ⟨q, hq⟩ : ∃ q, q = s.kind.toNat := ⟨_, rfl⟩
  have HQ := Lib.hid hq
  rintro e w1 ⟨hb1, A1, n1, c1, he, hl1, hn1, hr1, -⟩
  replace he : e = .returned (.tuple #[.agg #[.int .u8 (q : Int), .slice A1 n1 c1], .int .i64 (k : Int), .int .i64 x]) := by rw [hq]; exact he
  subst he
  clear hq
  have HB1 := Lib.hid (HB0.out.trans (hb1.mono HB0.out.size))
  have RS1 := Lib.hid (RS0.out.past hb1)
  have HL1 := Lib.hid (show s.body.length = n1 from hl1)
  have HR1 := Lib.hid (show Rd w1 w1.heap.size A1 s.body from hr1)
  replace RS1 := RS1
  clear hb1 hl1 hr1 HR0 HB0 RS0
  have HX := Lib.hid (show (x = 0 ∧ q = 77) ∨ (x ≠ 0 ∨ q ≠ 77) by omega)
  rcases HX.out with ⟨hx, hq⟩ | hbad
  · clear HX
    subst hx hq
    have HG := Lib.hid (show getS b = (⟨77, s.body⟩, k, 0) by rw [HS.out]; congr 1; have h1 := HQ.out; have : s.kind = 77 := by apply UInt8.toNat.inj; rw [← h1]; rfl
                                                              rw [← this])
    obtain ⟨w2, hw2⟩ : ∃ w2, w2 = w1.alloc (.cells #[.int .u8 77, .slice A1 n1 c1] 68) := ⟨_, rfl⟩
    have HW2 := Lib.hid hw2
    have hb2 : Below w1.heap.size w1 w2 := by rw [hw2]; exact (Below.refl _ _).alloc (Nat.le_refl _) _
    have HB2 := Lib.hid (HB1.out.trans (hb2.mono HB1.out.size))
    have HR2 := Lib.hid ((HR1.out.below hb2).more hb2.size)
    have RS2 := Lib.hid (RS1.out.past hb2)
    clear hb2 hw2
    go_wp2_with fail
    rw [← HW2.out]
    clear HW2
    refine (new_any A1 n1 c1 s.body w2 HL1.out (by omega) HR2.out).mono ?_
    rintro e w3 ⟨g, rfl, hg2, hg3, hrd, hb3⟩
    have HRD := Lib.hid hrd
    have HB3 := Lib.hid (HB2.out.trans (hb3.mono HB2.out.size))
    have RS3 := Lib.hid (RS2.out.past hb3)
    have hgw : w.heap.size ≤ g := Nat.le_trans HB2.out.size hg2
    have hHg : H < g := Nat.lt_of_lt_of_le (Blk.lt RS2.out) hg2
    clear hrd hb3 RS2 HR2 HR1 RS1
    go_wp2_with fail
    refine (next_any g s.body w3 HRD.out (by rw [HL1.out]; omega)).mono ?_
    rintro e w4 ⟨m, A2, n2, c2, l', x', rfl, hM, hn2, hrd, hgr, hp, hkey⟩
    have HKEY := Lib.hid hkey
    have HM4 := Lib.hid hM
    have HRD4 := Lib.hid hrd
    have HB4 := Lib.hid (show Below w.heap.size w w4 from HB3.out.trans ⟨hgr.os, hgr.tape, hgr.output, hgr.size, fun k hk => hgr.block k (by have := HB3.out.size; omega) (by intro e; injection e with e; omega)⟩)
    have RS4 := Lib.hid (Blk.grown RS3.out hgr (by intro e; injection e with e; omega))
    have HP := Lib.hid hp
    have HML := Lib.hid hM.wf
    have HI := Lib.hid (gets_iff HG.out (mn := 18446744073709551615) (ms := 9223372036854775807) (mb := 65535) (by omega) (by omega) (by omega))
    have hH3 := Blk.lt RS3.out
    clear hM hrd hgr hp hkey HRD HB3 RS3
    obtain ⟨w5, hw5⟩ : ∃ w5, w5 = w4.alloc (.cells #[.int .u64 (m.version : Int), .int .u32 (m.next : Int), .slice A2 n2 c2] 28) := ⟨_, rfl⟩
    have HW5 := Lib.hid hw5
    have hb5 : Below w4.heap.size w4 w5 := by rw [hw5]; exact (Below.refl _ _).alloc (Nat.le_refl _) _
    have HG5 := Lib.hid hb5
    have HB5 := Lib.hid (HB4.out.trans (hb5.mono HB4.out.size))
    have HM5 := Lib.hid (HM4.out.past hb5)
    have HRD5 := Lib.hid (HRD4.out.past hb5)
    have RS5 := Lib.hid (Blk.past RS4.out hb5)
    have MB5 := Lib.hid (show Blk w5 w4.heap.size [.int .u64 (m.version : Int), .int .u32 (m.next : Int), .slice A2 n2 c2] by rw [hw5]; exact Blk.new w4 [.int .u64 (m.version : Int), .int .u32 (m.next : Int), .slice A2 n2 c2] _)
    obtain ⟨I, hI⟩ : ∃ I, I = w4.heap.size := ⟨_, rfl⟩
    have HI4 := Lib.hid hI
    rw [← hI] at MB5
    clear hw5 hb5 hI HM4 HRD4 RS4 HB4
    go_wp2_with fail
    rw [← HW5.out]
    refine (end_any g l' x' w5 HRD5.out).mono ?_
    rintro e w6 ⟨rfl, rfl⟩
    obtain ⟨z, hz⟩ : ∃ z, z = endOf l' x' := ⟨_, rfl⟩
    rw [← hz]
    have HZ := Lib.hid hz
    clear HW5 hz
    by_cases hz0 : z = 0
    · subst hz0
      obtain ⟨e1, e2⟩ := end_zero HZ.out.symm
      have HP0 := Lib.hid (show parseM 18446744073709551615 9223372036854775807 65535 s.body = some (m, []) by
        rcases HP.out with ⟨-, h⟩ | ⟨h, -⟩
        · rw [h, e2]
        · exact absurd e1 h)
      have HSM := Lib.hid (small_of_body (m := m) (by have h := (parseM_stood HP0.out).1; rw [List.append_nil] at h; rw [← h, HL1.out]; exact hn1))
      clear e1 e2
      have i0 := MB5.cell (i := 0) rfl
      have i1 := MB5.cell (i := 1) rfl
      have i2 := MB5.cell (i := 2) rfl
      rw [← HI4.out]
      go_wp2_with fail
      refine (mmay_any A2 n2 c2 m w5 HSM.out HM5.out).mono ?_
      rintro e w6 ⟨ok, rfl, hok, hb6⟩
      have HOK := Lib.hid hok
      have HG6 := Lib.hid (HG5.out.trans (hb6.mono HG5.out.size))
      have HB6 := Lib.hid (HB5.out.trans (hb6.mono HB5.out.size))
      have RS6 := Lib.hid (Blk.past RS5.out hb6)
      have HM6 := Lib.hid (HM5.out.past hb6)
      have MB6 := Blk.past MB5 hb6
      have i0 := MB6.cell (i := 0) rfl
      have i1 := MB6.cell (i := 1) rfl
      have i2 := MB6.cell (i := 2) rfl
      have h56 := hb6.size
      clear hok hb6
      cases ok with
      | true =>
        have HGM := Lib.hid ((HI.out m).2 ⟨HP0.out, HOK.out.1 rfl⟩)
        clear HOK
        go_wp2_with (first
          | (refine wpList_store_blk rfl 28 _ _ rfl H _ #[.int .u64 (m.version : Int), .int .u32 (m.next : Int), .slice A2 n2 c2] rfl rfl (RS6.out) rfl man_size (man_one _ _ _ _ _) ?_
             intro w7 hb7 ho7
             have HB7 := Lib.hid (show Blk w7 H [.int .u64 (m.version : Int), .int .u32 (m.next : Int), .slice A2 n2 c2] from hb7)
             have HO7 := Lib.hid ho7
             clear hb7 ho7)
          | fail)
        have r0 := HB7.out.cell (i := 0) rfl
        have r1 := HB7.out.cell (i := 1) rfl
        have r2 := HB7.out.cell (i := 2) rfl
        refine bodyPost_ret (v := .tuple #[mval m.version m.next A2 n2 c2, .int .i64 0]) (by simp [results, Try.results9, go_sem, r0, r1, r2, mval]) rfl ?_
        exact ⟨HB6.out.trans (HO7.out.below (B := w.heap.size) (fun k _ hk => by omega) HB6.out.size), .inl ⟨m, A2, n2, c2, HGM.out, rfl, HKEY.out _ (some H) (fun k e => by injection e with e; omega) ⟨HO7.out.os.trans HG6.out.os, HO7.out.tape.trans HG6.out.tape, HO7.out.output.trans HG6.out.output, Nat.le_trans HG6.out.size HO7.out.size, fun k hk hne => (HO7.out.block k (Nat.lt_of_lt_of_le hk HG6.out.size) (fun e => hne (by rw [e]))).trans (HG6.out.block k hk)⟩, hn2⟩⟩
      | false =>
        have HN := Lib.hid (show ∀ m, ¬ GetsM b m from fun m0 h => by
          have h1 := (HI.out m0).1 h
          rw [HP0.out] at h1
          obtain ⟨h1, h2⟩ := h1
          injection h1 with h1
          injection h1 with h1 _
          subst h1
          exact absurd (HOK.out.2 h2) (by decide))
        clear HOK
        go_wp2_with (first
          | (refine wpList_store_blk rfl 28 _ _ rfl H _ #[.int .u64 0, .int .u32 0, .slice none 0 0] rfl rfl (RS6.out) rfl man_size (man_one _ _ _ _ _) ?_
             intro w7 hb7 ho7
             have HB7 := Lib.hid (show Blk w7 H [.int .u64 0, .int .u32 0, .slice none 0 0] from hb7)
             have HO7 := Lib.hid ho7
             clear hb7 ho7)
          | fail)
        have r0 := HB7.out.cell (i := 0) rfl
        have r1 := HB7.out.cell (i := 1) rfl
        have r2 := HB7.out.cell (i := 2) rfl
        have HBW := Lib.hid (HB6.out)
        refine bodyPost_ret (v := .tuple #[.agg #[.int .u64 0, .int .u32 0, .slice none 0 0], .int .i64 5]) (by simp [results, Try.results9, go_sem, r0, r1, r2]) rfl ?_
        exact ⟨HBW.out.trans (HO7.out.below (B := w.heap.size) (fun k _ hk => by omega) HBW.out.size), .inr ⟨HN.out, rfl⟩⟩
    · have HN := Lib.hid (show ∀ m, ¬ GetsM b m from fun m0 h => by
        have h1 := ((HI.out m0).1 h).1
        rcases HP.out with ⟨e, h2⟩ | ⟨-, h2⟩
        · rw [h2] at h1
          injection h1 with h1
          injection h1 with _ h1
          refine hz0 (HZ.out.trans ?_)
          rw [e, h1]
          rfl
        · rw [h2] at h1; cases h1)
      clear HZ
      go_wp2_with (first
        | (refine wpList_store_blk rfl 28 _ _ rfl H _ #[.int .u64 0, .int .u32 0, .slice none 0 0] rfl rfl (RS5.out) rfl man_size (man_one _ _ _ _ _) ?_
           intro w7 hb7 ho7
           have HB7 := Lib.hid (show Blk w7 H [.int .u64 0, .int .u32 0, .slice none 0 0] from hb7)
           have HO7 := Lib.hid ho7
           clear hb7 ho7)
        | fail)
      have r0 := HB7.out.cell (i := 0) rfl
      have r1 := HB7.out.cell (i := 1) rfl
      have r2 := HB7.out.cell (i := 2) rfl
      have HBW := Lib.hid (HB5.out)
      refine bodyPost_ret (v := .tuple #[.agg #[.int .u64 0, .int .u32 0, .slice none 0 0], .int .i64 5]) (by simp [results, Try.results9, go_sem, r0, r1, r2]) rfl ?_
      exact ⟨HBW.out.trans (HO7.out.below (B := w.heap.size) (fun k _ hk => by omega) HBW.out.size), .inr ⟨HN.out, rfl⟩⟩
  · have HN := Lib.hid (not_gets HS.out (hbad.imp id (fun h => fun e => h (by rw [HQ.out, e]; rfl))))
    rcases hbad with hx | hq
    · clear HX
      go_wp2_with (first
        | (refine wpList_store_blk rfl 28 _ _ rfl H _ #[.int .u64 0, .int .u32 0, .slice none 0 0] rfl rfl (RS1.out.alloc _) rfl man_size (man_one _ _ _ _ _) ?_
           intro w7 hb7 ho7
           have HB7 := Lib.hid (show Blk w7 H [.int .u64 0, .int .u32 0, .slice none 0 0] from hb7)
           have HO7 := Lib.hid ho7
           clear hb7 ho7)
        | fail)
      have r0 := HB7.out.cell (i := 0) rfl
      have r1 := HB7.out.cell (i := 1) rfl
      have r2 := HB7.out.cell (i := 2) rfl
      have HBW := Lib.hid (HB1.out.alloc HB1.out.size (.cells #[.int .u8 (q : Int), .slice A1 n1 c1] 68))
      refine bodyPost_ret (v := .tuple #[.agg #[.int .u64 0, .int .u32 0, .slice none 0 0], .int .i64 5]) (by simp [results, Try.results9, go_sem, r0, r1, r2]) rfl ?_
      exact ⟨HBW.out.trans (HO7.out.below (B := w.heap.size) (fun k _ hk => by omega) HBW.out.size), .inr ⟨HN.out, rfl⟩⟩
    · clear HX
      by_cases hx : x = 0
      · subst hx
        go_wp2_with (first
          | (refine wpList_store_blk rfl 28 _ _ rfl H _ #[.int .u64 0, .int .u32 0, .slice none 0 0] rfl rfl (RS1.out.alloc _) rfl man_size (man_one _ _ _ _ _) ?_
             intro w7 hb7 ho7
             have HB7 := Lib.hid (show Blk w7 H [.int .u64 0, .int .u32 0, .slice none 0 0] from hb7)
             have HO7 := Lib.hid ho7
             clear hb7 ho7)
          | fail)
        have r0 := HB7.out.cell (i := 0) rfl
        have r1 := HB7.out.cell (i := 1) rfl
        have r2 := HB7.out.cell (i := 2) rfl
        have HBW := Lib.hid (HB1.out.alloc HB1.out.size (.cells #[.int .u8 (q : Int), .slice A1 n1 c1] 68))
        refine bodyPost_ret (v := .tuple #[.agg #[.int .u64 0, .int .u32 0, .slice none 0 0], .int .i64 5]) (by simp [results, Try.results9, go_sem, r0, r1, r2]) rfl ?_
        exact ⟨HBW.out.trans (HO7.out.below (B := w.heap.size) (fun k _ hk => by omega) HBW.out.size), .inr ⟨HN.out, rfl⟩⟩
      · clear hq
        go_wp2_with (first
          | (refine wpList_store_blk rfl 28 _ _ rfl H _ #[.int .u64 0, .int .u32 0, .slice none 0 0] rfl rfl (RS1.out.alloc _) rfl man_size (man_one _ _ _ _ _) ?_
             intro w7 hb7 ho7
             have HB7 := Lib.hid (show Blk w7 H [.int .u64 0, .int .u32 0, .slice none 0 0] from hb7)
             have HO7 := Lib.hid ho7
             clear hb7 ho7)
          | fail)
        have r0 := HB7.out.cell (i := 0) rfl
        have r1 := HB7.out.cell (i := 1) rfl
        have r2 := HB7.out.cell (i := 2) rfl
        have HBW := Lib.hid (HB1.out.alloc HB1.out.size (.cells #[.int .u8 (q : Int), .slice A1 n1 c1] 68))
        refine bodyPost_ret (v := .tuple #[.agg #[.int .u64 0, .int .u32 0, .slice none 0 0], .int .i64 5]) (by simp [results, Try.results9, go_sem, r0, r1, r2]) rfl ?_
        exact ⟨HBW.out.trans (HO7.out.below (B := w.heap.size) (fun k _ hk => by omega) HBW.out.size), .inr ⟨HN.out, rfl⟩⟩
end Go.Proofs.Ytcnmamdfiicdaaa
