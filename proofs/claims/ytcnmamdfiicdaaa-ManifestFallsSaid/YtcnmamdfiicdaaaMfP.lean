/- Texts put together: MPut, MAw. -/
import Derived.Test.YtcnmamdfiicdaaaMfB
import Derived.Test.YtcnmamdfiicdaaaFrms
import Derived.Test.YtcnmamdfiicdaaaByts
/-! A manifest is put into a slot; whether it may be. -/
namespace Go.Proofs.Ytcnmamdfiicdaaa
open Go.RowKit Me Mf Va Fr

/-- A slot with a manifest. -/
def secOf (m : ManD) : SecD := ⟨77, body m⟩
def slotOf (m : ManD) : List UInt8 := encS (secOf m) ++ List.replicate (2048 - (encS (secOf m)).length) 0
theorem secOf_length (m : ManD) : (encS (secOf m)).length = (body m).length + 13 := encS_length _
theorem slotOf_length {m : ManD} (h : Fit m) : (slotOf m).length = 2048 := by
  unfold slotOf
  have := h.2
  rw [List.length_append, List.length_replicate, secOf_length]; omega
/-- What putting answers. -/
def MPutPost (w : World) (m : ManD) (e : Ending) (w' : World) : Prop :=
  Below w.heap.size w w' ∧ ((Fit m ∧ ∃ v, e = .returned (.tuple #[v, .int .i64 0]) ∧ w'.ownsRow w.heap.size 5 1 v 2048 (cellsOf (slotOf m))) ∨ (¬ Fit m ∧ e = .returned (.tuple #[.slice none 0 0, .int .i64 3])))
/-- What a manifest may hold at most, that a program goes through. -/
structure Small (m : ManD) : Prop where
  files : m.files.length ≤ 1073741824
  count : countOf m.files ≤ 1073741824
  body : (body m).length ≤ 1099511627776
set_option maxRecDepth 100000 in
set_option maxHeartbeats 2000000 in
theorem mput_any (A : Option Addr) (n c : Nat) (m : ManD) (w : World) (hs : Small m) (h : ManAt w w.heap.size A n c m) :
    Calls Try.prog 28 #[mval m.version m.next A n c] w (MPutPost w m) := by
  obtain ⟨i0, hi0, hz0, hz1, hz2⟩ := info_parts u8_info
  have hn := h.len
  have hs1 := hs.files
  rw [hn] at hs1
  obtain ⟨v, hv⟩ : ∃ v, v = m.version := ⟨_, rfl⟩
  obtain ⟨x, hx⟩ : ∃ x, x = m.next := ⟨_, rfl⟩
  have HV := Lib.hid hv
  have HX := Lib.hid hx
  rw [← hv, ← hx]
  have HS := Lib.hid hs
  have HN := Lib.hid hn
  obtain ⟨wb, hwb⟩ : ∃ wb, wb = w.alloc (.cells #[.int .u64 (v : Int), .int .u32 (x : Int), .slice A n c] 28) := ⟨_, rfl⟩
  have HB0 := Lib.hid (show Below w.heap.size w wb by rw [hwb]; exact (Below.refl _ _).alloc (Nat.le_refl _) _)
  have HM0 := Lib.hid (h.past HB0.out)
  have hb0 : wb.heap.size = w.heap.size + 1 := by rw [hwb]; simp
  have p0 : wb.cell? ⟨w.heap.size, 0, none⟩ = some (.int .u64 (v : Int)) := by rw [hwb]; simp only [World.cell?, heap_alloc_new]; rfl
  have p1 : wb.cell? ⟨w.heap.size, 1, none⟩ = some (.int .u32 (x : Int)) := by rw [hwb]; simp only [World.cell?, heap_alloc_new]; rfl
  have p2 : wb.cell? ⟨w.heap.size, 2, none⟩ = some (.slice A n c) := by rw [hwb]; simp only [World.cell?, heap_alloc_new]; rfl
  have HP := Lib.hid (And.intro p0 (And.intro p1 p2))
  have HBS := Lib.hid hb0
  have HWB := Lib.hid hwb
  clear h hs hn hv hx hwb hb0 p0 p1 p2
  go_enter Try.func28, Try.ntmps28
  go_wp2_with fail
  rw [← HWB.out]
  clear HWB
  refine (names_any A n c m.files wb HN.out (by omega) HM0.out.files).mono ?_
  rintro e w1 ⟨b1, rfl, hb1, hB1⟩
  have HB1 := Lib.hid (HB0.out.trans (hB1.mono HB0.out.size))
  have hc1 : ∀ j, w1.cell? ⟨w.heap.size, j, none⟩ = wb.cell? ⟨w.heap.size, j, none⟩ := fun j => hB1.cell (p := ⟨w.heap.size, j, none⟩) (by have := HBS.out; show w.heap.size < wb.heap.size; omega)
  have q0 := (hc1 0).trans HP.out.1
  have q1 := (hc1 1).trans HP.out.2.1
  have q2 := (hc1 2).trans HP.out.2.2
  have HQ := Lib.hid (And.intro q0 (And.intro q1 q2))
  have HM1 := Lib.hid (HM0.out.past hB1)
  have HS1 := Lib.hid (show w.heap.size < w1.heap.size by have := hB1.size; have := HBS.out; omega)
  have HN1 := Lib.hid hb1
  clear hb1 hB1 hc1 HM0 HB0 HP HBS
  cases b1 with
  | false =>
    clear q0 q1 q2
    go_wp2
    exact bodyPost_ret (v := .tuple #[.slice none 0 0, .int .i64 3]) (by simp [results, Try.results28, go_sem]) rfl ⟨HB1.out, .inr ⟨fun hf => (by have := HN1.out.2 hf.1.1; cases this), rfl⟩⟩
  | true =>
    go_wp2_with fail
    refine (ids_any v x A n c m w1 HX.out.symm (by omega) HM1.out).mono ?_
    rintro e w2 ⟨b2, rfl, hb2, hB2⟩
    have HB2 := Lib.hid (HB1.out.trans (hB2.mono HB1.out.size))
    have hc2 : ∀ j, w2.cell? ⟨w.heap.size, j, none⟩ = w1.cell? ⟨w.heap.size, j, none⟩ := fun j => hB2.cell (p := ⟨w.heap.size, j, none⟩) HS1.out
    have r0 := (hc2 0).trans HQ.out.1
    have r1 := (hc2 1).trans HQ.out.2.1
    have r2 := (hc2 2).trans HQ.out.2.2
    have HR := Lib.hid (And.intro r0 (And.intro r1 r2))
    have HM2 := Lib.hid (HM1.out.past hB2)
    have HS2 := Lib.hid (show w.heap.size < w2.heap.size by have := hB2.size; have := HS1.out; omega)
    have HI2 := Lib.hid hb2
    clear hb2 hB2 hc2 q0 q1 q2 HM1 HB1 HQ HS1
    cases b2 with
    | false =>
      clear r0 r1 r2
      go_wp2
      exact bodyPost_ret (v := .tuple #[.slice none 0 0, .int .i64 3]) (by simp [results, Try.results28, go_sem]) rfl ⟨HB2.out, .inr ⟨fun hf => (by have := HI2.out.2 hf.1.2.1; cases this), rfl⟩⟩
    | true =>
      go_wp2_with fail
      refine (blks_any A n c m.files w2 HN.out (by omega) HS.out.count HM2.out.wf.files HM2.out.files).mono ?_
      rintro e w3 ⟨b3, rfl, hb3, hB3⟩
      have HB3 := Lib.hid (HB2.out.trans (hB3.mono HB2.out.size))
      have hc3 : ∀ j, w3.cell? ⟨w.heap.size, j, none⟩ = w2.cell? ⟨w.heap.size, j, none⟩ := fun j => hB3.cell (p := ⟨w.heap.size, j, none⟩) HS2.out
      have s0 := (hc3 0).trans HR.out.1
      have s1 := (hc3 1).trans HR.out.2.1
      have s2 := (hc3 2).trans HR.out.2.2
      have HM3 := Lib.hid (HM2.out.past hB3)
      have HS3 := Lib.hid (show w.heap.size < w3.heap.size by have := hB3.size; have := HS2.out; omega)
      have HK3 := Lib.hid hb3
      clear hb3 hB3 hc3 r0 r1 r2 HM2 HB2 HR HS2
      cases b3 with
      | false =>
        clear s0 s1 s2
        go_wp2
        exact bodyPost_ret (v := .tuple #[.slice none 0 0, .int .i64 3]) (by simp [results, Try.results28, go_sem]) rfl ⟨HB3.out, .inr ⟨fun hf => (by have := HK3.out.2 hf.1.2.2; cases this), rfl⟩⟩
      | true =>
        have HG := Lib.hid (show Mf.Good m.next m.files from ⟨HN1.out.1 (by trivial), HI2.out.1 (by trivial), HK3.out.1 (by trivial)⟩)
        clear HN1 HI2 HK3
        go_wp2_with fail
        rw [HV.out, HX.out]
        refine (body_any A n c m w3 (good_pos HG.out) HS.out.body HM3.out).mono ?_
        intro e w4 h4
        obtain ⟨A4, n4, c4, rfl, hl4, -, -, hr4, hb4⟩ := h4.open
        have HB4 := Lib.hid (HB3.out.trans (hb4.mono HB3.out.size))
        have HL4 := Lib.hid hl4
        have HR4 := Lib.hid hr4
        clear h4 hl4 hr4 hb4 s0 s1 s2 HB3 HM3
        by_cases hlong : 1048576 < n4
        · go_wp2_with fail
          refine (fput_long none 0 0 [] 77 A4 n4 c4 w4 rfl (by omega) Rd.empty hlong).mono ?_
          rintro e w5 ⟨v5, n5, rfl, -, hb5⟩
          have HB5 := Lib.hid (HB4.out.trans (hb5.mono HB4.out.size))
          clear hb5
          go_wp2
          exact bodyPost_ret (v := .tuple #[.slice none 0 0, .int .i64 3]) (by simp [results, Try.results28, go_sem]) rfl ⟨HB5.out, .inr ⟨fun hf => (by have := hf.2; have := HL4.out; omega), rfl⟩⟩
        · go_wp2_with fail
          refine (fput_good none 0 0 [] A4 n4 c4 (secOf m) w4 rfl (by omega) Rd.empty HL4.out (by omega) HR4.out).mono ?_
          intro e w5 h5
          rw [List.nil_append] at h5
          obtain ⟨A5, n5, c5, rfl, hl5, hc5, -, hr5, hb5⟩ := h5.open
          have HB5 := Lib.hid (HB4.out.trans (hb5.mono HB4.out.size))
          have HL5 := Lib.hid hl5
          have HR5 := Lib.hid hr5
          have HE5 := Lib.hid (show n5 = (body m).length + 13 by rw [← hl5, secOf_length])
          clear h5 hl5 hr5 hb5 HB4 HR4
          by_cases hbig : 2048 < n5
          · have d1 : decide ((2048 : Int) < (n5 : Int)) = true := by simp; omega
            go_wp2
            exact bodyPost_ret (v := .tuple #[.slice none 0 0, .int .i64 3]) (by simp [results, Try.results28, go_sem]) rfl ⟨HB5.out, .inr ⟨fun hf => (by have := hf.2; have := HE5.out; omega), rfl⟩⟩
          · have d1 : decide ((2048 : Int) < (n5 : Int)) = false := by simp; omega
            have HFIT := Lib.hid (show Fit m from ⟨HG.out, by have := HE5.out; omega⟩)
            go_wp2_with (first
              | (refine wpList_make_full w5 rfl _ _ 22 rfl w5.heap.size 5 i0 _ 1 Try.underlying22 hi0 hz0 hz1 .i64 .i64 _ _ 2048 rfl rfl rfl rfl (by rw [hz2]; omega) (by unfold maxLen; omega) (Nat.le_refl _) ?_
                 intro w6 ho6 hg6
                 rw [made_zero] at ho6
                 have HO6 := Lib.hid ho6
                 have HB6 := Lib.hid ((Below.refl w5.heap.size w5).grown hg6 (Nat.le_refl _) (fun k e => by cases e))
                 clear ho6 hg6)
              | (with_reducible show wpList _ _ _ _ _ _
                 refine wpList_copy_bytes (o := ⟨some 39, _, _, _, _, _⟩) rfl (.tmp 37) (.tmp 38) 22 rfl 5 Try.underlying22 (by kernel_rfl) w5.heap.size w5.heap.size 2048 0 2048 2048 _ HO6.out rfl w5.heap.size A5 n5 c5 _ rfl HL5.out (HR5.out.below HB6.out) (by omega) (by omega) w5 HB6.out ?_
                 intro w7 ho7 hb7
                 have HO7 := Lib.hid ho7
                 have HB7 := Lib.hid hb7
                 clear ho7 hb7))
            have ho := HO7.out
            have e7 : (List.replicate 2048 0).take 0 ++ encS (secOf m) ++ (List.replicate 2048 (0 : UInt8)).drop (0 + n5) = slotOf m := by
              unfold slotOf
              rw [List.take_zero, List.nil_append, List.drop_replicate, HL5.out, Nat.zero_add]
            rw [e7] at ho
            exact bodyPost_ret (v := .tuple #[.slice (some ⟨w5.heap.size, 0, none⟩) 2048 2048, .int .i64 0]) (by simp [results, Try.results28, go_sem]) rfl
              ⟨HB5.out.trans (HB7.out.mono HB5.out.size), .inl ⟨HFIT.out, _, rfl, own_more ho HB5.out.size⟩⟩
end Go.Proofs.Ytcnmamdfiicdaaa

/-! Whether a manifest may be, told by the program; the document's example. -/
namespace Go.Proofs.Ytcnmamdfiicdaaa
open Go.RowKit Me Mf Va Fr

set_option maxRecDepth 100000 in
set_option maxHeartbeats 400000 in
theorem mmay_any (A : Option Addr) (n c : Nat) (m : ManD) (w : World) (hs : Small m) (h : ManAt w w.heap.size A n c m) :
    Calls Try.prog 29 #[mval m.version m.next A n c] w (Bp w (Fit m)) := by
  have HS := Lib.hid hs
  obtain ⟨wb, hwb⟩ : ∃ wb, wb = w.alloc (.cells #[.int .u64 (m.version : Int), .int .u32 (m.next : Int), .slice A n c] 28) := ⟨_, rfl⟩
  have HB0 := Lib.hid (show Below w.heap.size w wb by rw [hwb]; exact (Below.refl _ _).alloc (Nat.le_refl _) _)
  have HM0 := Lib.hid (h.past HB0.out)
  have HWB := Lib.hid hwb
  clear h hs hwb
  go_enter Try.func29, Try.ntmps29
  go_wp2_with fail
  rw [← HWB.out]
  clear HWB
  refine (mput_any A n c m wb HS.out HM0.out).mono ?_
  rintro e w1 ⟨hb, h1⟩
  have HB1 := Lib.hid (HB0.out.trans (hb.mono HB0.out.size))
  rcases h1 with ⟨hf, v, rfl, -⟩ | ⟨hf, rfl⟩
  · have HF := Lib.hid hf
    clear hf hb
    go_wp2
    go_ret
    exact ⟨true, rfl, ⟨fun _ => HF.out, fun _ => rfl⟩, HB1.out⟩
  · have HF := Lib.hid hf
    clear hf hb
    go_wp2
    go_ret
    exact ⟨false, rfl, ⟨fun h => (by cases h), fun h => absurd h HF.out⟩, HB1.out⟩
theorem body_none : body noMan = [0, 0, 0] := by
  unfold body noMan
  simp only [encFs, List.length_nil, List.append_nil]
  rw [enc_small (by decide)]
  rfl
theorem fit_none : Fit noMan := ⟨good_nil 0, by rw [body_none]; decide⟩
theorem small_none : Small noMan := ⟨by decide, by decide, by rw [body_none]; decide⟩
theorem slot_none : ∃ l, slotOf noMan = 77 :: 3 :: l := by
  unfold slotOf secOf encS
  rw [body_none]
  exact ⟨_, rfl⟩
set_option maxRecDepth 100000 in
set_option maxHeartbeats 400000 in
theorem awake_any (w : World) : Calls Try.prog 8 #[] w fun e w' => e = .returned (.bool true) ∧ Below w.heap.size w w' := by
  go_enter Try.func8, Try.ntmps8
  go_wp2_with fail
  refine (mput_any none 0 0 noMan w small_none (ManAt.none w _)).mono ?_
  rintro e w1 ⟨hb, ⟨-, v, rfl, ho⟩ | ⟨hf, -⟩⟩
  · obtain ⟨V, cv, rfl⟩ := own_slice ho
    have hr := Rd.of_own ho
    obtain ⟨l, hl⟩ := slot_none
    rw [hl] at hr
    obtain ⟨a, rfl, hab, hc⟩ := hr (by simp)
    have h0 : w1.cell? a = some (.int .u8 77) := by have := hc 0 77 rfl; rwa [add_zero'] at this
    have h1 : w1.cell? ⟨a.block, a.off + 1, none⟩ = some (.int .u8 3) := by have := hc 1 3 rfl; rwa [add_at a 0] at this
    have HB := Lib.hid hb
    have HM := Lib.hid (ManAt.none w1 w1.heap.size)
    clear ho hr hl hc hb
    go_wp2_with fail
    refine (mmay_any none 0 0 noMan w1 small_none HM.out).mono ?_
    rintro e w2 ⟨b, rfl, hb, hB2⟩
    have hbt : b = true := hb.2 fit_none
    subst hbt
    have HB2 := Lib.hid (HB.out.trans (hB2.mono HB.out.size))
    clear hb hB2
    go_wp2
    go_ret
    exact ⟨rfl, HB2.out⟩
  · exact absurd fit_none hf
end Go.Proofs.Ytcnmamdfiicdaaa
