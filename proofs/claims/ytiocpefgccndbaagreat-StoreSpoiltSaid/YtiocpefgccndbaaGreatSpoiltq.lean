/- StoreSpoilt: with one byte of a block behind the slots spoilt each file is read as it was, or told to be corrupt; the others as they were; for every input. -/
import Derived.ProofKit
import Derived.Lib.SmallJoins
import Derived.Test.YtiocpefgccndbaaGreatKS30
import Derived.Test.YtiocpefgccndbaaGreatKS28
namespace Go.Proofs.YtiocpefgccndbaaGreat
open Go.RowKit Me Mf Rw Ds Va Go.Maps

/-- What is known of each slot where the opened store is looked at. -/
def spX (G P n2 c2 : Nat) (A2 : Option Addr) : Gw.Fact := fun t v _ =>
  match t with
  | 14 | 64 | 71 => v = .pointer (some ⟨P, 0, none⟩)
  | 65 | 66 | 68 | 69 | 70 | 79 | 80 => v = .bool false
  | 15 | 67 => v = .int .i64 0
  | 72 => ∃ A c, v = .slice A n2 c
  | 73 | 78 => v = .int .i64 (n2 : Int)
  | 11 | 74 | 75 => v = .pointer (some ⟨G, 0, none⟩)
  | 76 => v = .pointer (some ⟨G, 5, none⟩)
  | 77 => v = .slice A2 n2 c2
  | _ => True
theorem spoil_len (S : Dsk) (i a : Int) (y : UInt8) : (spoilD S i a y).1.stored.length = S.stored.length := by
  unfold spoilD
  split
  · exact List.length_set
  · rfl
/-- Which files have been told to be corrupt. -/
def BadIs (m : ManD) (i : Int) (k q : Nat) : Prop := q = 0 ∨ (q = 1 ∧ ∃ k0 f0, k0 < k ∧ m.files[k0]? = some f0 ∧ i ∈ f0.blocks)
theorem BadIs.more {m : ManD} {i : Int} {k q : Nat} (h : BadIs m i k q) : BadIs m i (k + 1) q := h.imp (fun q => q) fun ⟨e, k0, f0, h1, h2, h3⟩ => ⟨e, k0, f0, by omega, h2, h3⟩
theorem BadIs.next {m : ManD} {i : Int} {k q : Nat} {f : FileD} (h : BadIs m i k q) (hb : BlocksOk m.files) (hf : m.files[k]? = some f) (hi : i ∈ f.blocks) : q = 0 ∧ BadIs m i (k + 1) (q + 1) := by
  rcases h with rfl | ⟨-, k0, f0, h1, h2, h3⟩
  · exact ⟨rfl, .inr ⟨rfl, k, f, by omega, hf, hi⟩⟩
  · have := blocks_once hb h2 hf h3 hi
    omega
set_option maxRecDepth 100000 in
set_option maxHeartbeats 8000000 in
theorem sspoilt_walk (count : Int) (A : Option Addr) (n c : Nat) (acts : List AS) (i at_ : Int) (y : UInt8) (w : World) (hl : acts.length = n) (hn : n ≤ c ∧ c ≤ 9223372036854775807) (ha : SActs w w.heap.size A acts) :
    Calls Tryz.prog 6 #[.int .i64 count, .slice A n c, .int .i64 i, .int .i64 at_, .int .u8 (y.toNat : Int)] w fun e w' => e = .returned (.bool true) ∧ Below w.heap.size w w' := by
  have HG := Lib.hid (great_any count A n c acts w w.heap.size hl (by omega) ha)
  have HL := Lib.hid hl
  have HA := Lib.hid ha
  have HAW := Lib.hid (awake_any w)
  clear hl ha
  by_cases hi32 : i < 32
  · have d0 : decide (i < 32) = true := by simp; omega
    go_enter Tryz.func6, Tryz.ntmps6
    go_wp2_with fail
    refine HG.out.mono ?_
    rintro e w1 ⟨⟨g, rfl, -⟩, rfl⟩
    cases g
    all_goals
      go_wp2_with (go_at_call 10; refine HAW.out.mono ?_; rintro e w9 ⟨rfl, hb⟩; have HB9 := Lib.hid hb; clear hb)
      go_ret
      exact ⟨rfl, HB9.out⟩
  have d0 : decide (i < 32) = false := by simp; omega
  go_enter Tryz.func6, Tryz.ntmps6
  go_wp2_with fail
  refine HG.out.mono ?_
  rintro e w1 ⟨⟨g, rfl, hg⟩, rfl⟩
  have HFW := Lib.hid hg
  clear hg HG
  cases g with
  | true =>
    go_wp2_with (go_at_call 10; refine HAW.out.mono ?_; rintro e w9 ⟨rfl, hb⟩; have HB9 := Lib.hid hb; clear hb)
    go_ret
    exact ⟨rfl, HB9.out⟩
  | false =>
    obtain ⟨f1, f2, f3, f4⟩ := HFW.out rfl
    have HF4 := Lib.hid f4
    obtain ⟨cn, rfl⟩ : ∃ cn : Nat, count = (cn : Int) := ⟨count.toNat, by omega⟩
    have hcn : 40 ≤ cn ∧ cn ≤ 200 := by omega
    have hn60 : n ≤ 60 := by have := HL.out; omega
    have HBG := Lib.hid (begin_play cn (by omega) (by omega) w)
    clear f1 f2 f3 f4 HFW
    go_upto_region 4 with (go_at_call 11; refine HBG.out.mono ?_; rintro e w1 ⟨G, D, rfl, hp, hb1⟩; have HP := Lib.hid hp; have HB1 := Lib.hid hb1; clear hp hb1)
    have HR0 := Lib.hid (Rest.new (F := fun _ => []) (n := cn) (by omega))
    have HY0 := Lib.hid (ply_new (newD cn) (fun _ => []))
    clear HBG
    go_wp2_with fail
    go_loopw [13] (fun z wr => ∃ (j : Nat) (X : Sto) (F : List UInt8 → List UInt8) (Y : Ply), z = .int .i64 (j : Int) ∧ j ≤ n ∧ Hid (PlayIs wr w.heap.size G D j X Y) ∧ Hid (Rest X F) ∧ Hid (PlyOk X F Y) ∧ Hid (FewY Y j) ∧ Hid (Below w.heap.size w wr)) (fun z _ => n - (intOf z).toNat)
    case atStart => exact ⟨0, _, _, _, rfl, Nat.zero_le _, HP, HR0, HY0, Lib.hid few_new, HB1⟩
    case round =>
      clear HP HR0 HY0 HB1
      obtain ⟨j, X, F, Y, rfl, hj, HP, HR, HY, HJ, HB⟩ := hrel
      by_cases hlt : j < n
      · obtain ⟨a, p, rfl, hab, hp, A2, n2, c2, g0, g1, g2, q1, q2, q3, q4⟩ := HA.out.at (i := j) (by rw [HL.out]; exact hlt)
        have HPL := Lib.hid (HF4.out p (List.mem_of_getElem? hp))
        have habk : (a.add (j * 3)).block < w.heap.size := by rw [block_add]; exact hab
        replace g0 := (HB.out.cell habk).trans g0
        replace g1 := (HB.out.cell (p := ⟨(a.add (j * 3)).block, (a.add (j * 3)).off + 1, none⟩) habk).trans g1
        replace g2 := (HB.out.cell (p := ⟨(a.add (j * 3)).block, (a.add (j * 3)).off + 2, none⟩) habk).trans g2
        have hlt' : (j : Int) < (n : Int) := by omega
        have hd := Lib.hid (does_any HP.out HR.out HY.out HJ.out (by omega) p.kind p.name (by have := HPL.out; omega) A2 n2 c2 p.b q1 (by have := HPL.out; omega) ((q4.below HB.out).more HB.out.size))
        obtain ⟨kind, hkind⟩ : ∃ k, k = p.kind := ⟨_, rfl⟩
        obtain ⟨nm, hnm⟩ : ∃ k, k = p.name := ⟨_, rfl⟩
        rw [← hkind, ← hnm] at hd
        rw [← hkind] at g0
        rw [← hnm] at g1
        clear hp q1 q2 q3 q4 habk hab hkind hnm HP HR HY HJ
        go_wp2_with (go_at_call 12; refine hd.out.mono ?_; rintro e w3 ⟨X', Y', F', rfl, h1, h2, h3, -, h5, h6, -⟩; have H1 := Lib.hid h1; have H2 := Lib.hid h2; have H3 := Lib.hid h3; have H5 := Lib.hid h5; have H6 := Lib.hid (HB.out.trans h6); clear h1 h2 h3 h5 h6)
        exact ⟨⟨j + 1, X', F', Y', by simp, hlt, H5, H1, H2, H3, H6⟩, by simp [intOf]; omega⟩
      · have e : j = n := by omega
        subst e
        obtain ⟨P, M, N, own, ownD, hN, hBw, hp⟩ := HP.out
        obtain ⟨A', n0, c0, A2, n2, c2, A3, n3, c3, A4, n4, c4, h1, h2, h3, h4, h5, h6⟩ := hp.box
        have k1 := h1.cell (i := 1) rfl
        have HSP := Lib.hid (spoil_any hp.st.disk i at_ y)
        have HPP := Lib.hid hp
        clear h1 h2 h3 h4 h5 h6 hp HP HA HF4
        go_upto_region 12 with (go_at_call 28; refine HSP.out.mono ?_; rintro e w2 ⟨rfl, hdp⟩; have HDP := Lib.hid hdp; clear hdp)
        obtain ⟨own2, ownD2, hs2, hf2⟩ := HPP.out.st.disked HDP.out (spoil_len X.S i at_ y)
        have hp2 := HPP.out.store hs2 hf2
        obtain ⟨hbare, -⟩ := spoil_is HR.out i at_ y (by omega)
        obtain ⟨han1, han2, han3⟩ := hbare.anew
        obtain ⟨T, Z, hT, hZ, hans⟩ := hbare.read
        have hmr := mread_any hp2.st.disk (show (spoilD X.S i at_ y).1.pend.length < 4611686018427387904 by have := hbare.calm.pend; rw [show (spoilD X.S i at_ y).1.pend = [] from this]; show 0 < _; omega) hT hZ
        rw [hans] at hmr
        have HOP := Lib.hid (open_good (own := own2) hp2.st.disk (fun k hk => hp2.st.own k (.inr (.inr hk))) (fun k hk => hp2.st.lt hk) hmr hbare.ok.fit hbare.ok.wf hbare.ok.disk hbare.ok.big (by rw [show (spoilD X.S i at_ y).1.pend = [] from hbare.calm.pend]; show 0 + 64 ≤ _; omega))
        have HO2 := Lib.hid (show Out own wr w2 from HPP.out.st.foot hf2.1)
        obtain ⟨A', n0, c0, A2, n2, c2, A3, n3, c3, A4, n4, c4, h1, h2, h3, h4, h5, h6⟩ := hp2.box
        have HX2 := Lib.hid h1
        have H3 := Lib.hid h3
        have hhv : Y.hv.length = n2 := h3.len
        have HHV := Lib.hid hhv
        have k1 := h1.cell (i := 1) rfl
        have HP2 := Lib.hid hp2
        have HAN := Lib.hid (And.intro han1 (And.intro han2 han3))
        clear h1 h2 h3 h4 h5 h6 hs2 hf2 hp2 hbare han1 han2 han3 hT hZ hans hmr HSP hhv
        go_upto_region 13 with (go_at_call 20; refine HOP.out.mono ?_; intro e w6 hop; simp only [OpPost] at hop; rcases hop with ⟨q, -⟩ | ⟨-, P', M', own', ownD', rfl, hst, ho6, -⟩; exact absurd HAN.out.1 q; have HS6 := Lib.hid hst; have HO6 := Lib.hid ho6; clear hst ho6)
        obtain ⟨S6, hS6⟩ : ∃ S6, S6 = (if X.m.version = 0 then ((spoilD X.S i at_ y).1, (0 : Int)) else wmD (spoilD X.S i at_ y).1 X.m 2).1 := ⟨_, rfl⟩
        have han2 := HAN.out.2.1
        have han3 := HAN.out.2.2
        have hst6 := HS6.out
        simp only [← hS6] at han2 han3 hst6
        have HS7 := Lib.hid hst6
        have HBR := Lib.hid han2
        have hln : S6.stored.length = X.S.stored.length := by
          rw [hS6]
          have := @ite_length (spoilD X.S i at_ y).1 X.m
          rw [this]
          exact spoil_len X.S i at_ y
        have HST := Lib.hid (And.intro han3 hln)
        have HH6 := Lib.hid (H3.out.out (HO6.out.more (S' := own2) fun k _ hk => HP2.out.st.own k (.inr (.inr hk))))
        have HX6 := Lib.hid (HX2.out.out HO6.out (fun e => HP2.out.g.2 (.inr (.inr e))))
        have HO26 := Lib.hid (show Out own2 w2 w6 from HO6.out.more (S' := own2) fun k _ hk => HP2.out.st.own k (.inr (.inr hk)))
        have hB2 : w.heap.size ≤ w2.heap.size := by have := HO2.out.size; omega
        have HB6 := Lib.hid (show Below w.heap.size w w6 from (HB.out.trans (HO2.out.below (fun k _ hk => (HPP.out.st.lt hk).1) hBw)).trans (HO26.out.below (fun k _ hk => (HP2.out.st.lt hk).1) hB2))
        have hg5 := HX6.out.cell (i := 5) rfl
        have HNM := Lib.hid (fun W (hW : Below w6.heap.size w6 W) => snames_any (HS7.out.past hW) (show 0 ≤ 1000000 by omega))
        clear k1 HOP hS6 han2 han3 hst6 hln HS6 HAN
        refine Gw.wp_region_grow (spX G P' n2 c2 A2) [64, 65, 66, 67, 68, 69, 70, 71, 72, 73, 74, 75, 76, 77, 78, 79, 80] [([14], none), ([64], none), ([65], none), ([15, 66], some (66, false)), ([67, 66], some (66, false)), ([66, 68], none), ([69], none), ([14, 70], some (70, false)), ([71, 70], some (70, false)), ([72, 70], some (70, false)), ([11, 70], some (70, false)), ([74, 70], some (70, false)), ([75, 70], some (70, false)), ([76, 70], some (70, false)), ([77, 70], some (70, false)), ([73, 78, 70], some (70, false)), ([70, 79], none)] 136 (by kernel_rfl) (by kernel_rfl) rfl ?h0 ?hreq ?hend
        case h0 =>
          intro t W hnd _
          unfold spX
          split <;> first | (exfalso; apply hnd; decide) | rfl | trivial
        case hreq =>
          refine ⟨?_, ?_, ?_, ?_, ?_, ?_, ?_, ?_, ?_, ?_, ?_, ?_, ?_, ?_, ?_, ?_, ?_, trivial⟩
          all_goals
            intro ac W hg hk
            have hg' : Below w6.heap.size w6 W := hg
            have z5 := (hg'.cell (World.block_lt_of_cell? _ _ hg5)).trans hg5
            simp only [Gw.Knows, spX] at hk
            try (simp [go_sem, Gw.OpReq, Gw.Ok, Gw.Post, Gw.Holds, spX, Gw.Grows.refl, hk, z5]; done)
          · simp [go_sem, Gw.OpReq, Gw.Ok, Gw.Post, Gw.Holds, spX, Gw.Grows.refl, hk]
            refine (HNM.out W hg').mono ?_
            rintro e w' ⟨A7, n7, c7, l, rfl, hil, hll, -, -, hb'⟩
            have hl2 : l = X.m.files.map (·.name) := hil.one (names_of HR.out.ok.fit)
            have hn7 : n7 = n2 := by
              rw [← hll, hl2, List.length_map, ← HHV.out, HY.out.hv, List.length_map]
            subst hn7
            exact ⟨_, rfl, hb', fun _ _ => ⟨_, _, rfl⟩⟩
          · obtain ⟨⟨A7, c7, e72⟩, e70, -⟩ := hk
            simp [go_sem, Gw.OpReq, Gw.Ok, Gw.Post, Gw.Holds, spX, Gw.Grows.refl, e72, e70]
        case hend =>
          intro yy w7 hg hy
          have hg' : Below w6.heap.size w6 w7 := hg
          have e80 : yy 80 = .bool false := (hy 80 (by simp)).now
          have HB7 := Lib.hid hg'
          simp only [Gw.putAll, Act.put, List.setIfInBounds_toArray, List.set_cons_zero, List.set_cons_succ]
          rw [e80]
          clear hg hg' hy e80 hg5 HNM
          have g5 := (HX6.out.past HB7.out).cell (i := 5) rfl
          go_wp2_with fail
          clear g5
          go_loopw [16, 17] (fun v z wq => ∃ k q : Nat, z = .int .i64 (k : Int) ∧ v = .int .i64 (q : Int) ∧ k ≤ n2 ∧ q ≤ k ∧ Hid (BadIs X.m i k q) ∧ Hid (Below w6.heap.size w6 wq)) (fun _ z _ => n2 - (intOf z).toNat)
          case atStart => exact ⟨0, 0, rfl, rfl, Nat.zero_le _, Nat.le_refl _, Lib.hid (.inl rfl), HB7⟩
          case round =>
            clear HB7
            obtain ⟨k, q, rfl, rfl, hk, hq, HBD, HB7⟩ := hrel
            have g5 := (HX6.out.past HB7.out).cell (i := 5) rfl
            have HBW := Lib.hid (HB6.out.trans (HB7.out.mono HB6.out.size))
            have hn2 : n2 ≤ 60 := by have h1 := HJ.out.hv; have h2 := HHV.out; omega
            by_cases hlt : k < n2
            · have hkf : k < X.m.files.length := by
                have h1 := congrArg List.length HY.out.hv
                rw [List.length_map] at h1
                have := HHV.out
                omega
              obtain ⟨f, hf⟩ : ∃ f, X.m.files[k]? = some f := ⟨_, List.getElem?_eq_getElem hkf⟩
              have hfm := List.mem_of_getElem? hf
              have hfb : Y.hv[k]? = some (f.name, F f.name) := by rw [HY.out.hv, List.getElem?_map, hf]; rfl
              obtain ⟨a, rfl, a1, a2⟩ := fcl_cells ((HH6.out.out (.of_below HB7.out)).at_.now) hfb
              have hlt' : (k : Int) < (n2 : Int) := by omega
              have HRD := Lib.hid (sread_any (HS7.out.past HB7.out) f.name (by have := (HR.out.ok.fit.1.1.1 f hfm).2; omega) (by rw [show S6.pend = [] from HBR.out.calm.pend]; show 0 < _; omega))
              rw [read_file HR.out.ok.fit HBR.out.on hfm] at HRD
              have HSF := Lib.hid (spoilt_file HR.out (i := i) (at_ := at_) (y := y) hi32 HBR.out.calm HBR.out.on HST.out.2 HST.out.1 hfm)
              have HF := Lib.hid hf
              obtain ⟨nm, hnm⟩ : ∃ nm, nm = f.name := ⟨_, rfl⟩
              rw [← hnm] at a1 HRD HSF a2
              obtain ⟨bs, hbs⟩ : ∃ bs, bs = F nm := ⟨_, rfl⟩
              rw [← hbs] at HSF a2
              obtain ⟨RR, hRR⟩ : ∃ RR, RR = readF S6 f := ⟨_, rfl⟩
              rw [← hRR] at HRD HSF
              clear hf hfm hfb hkf hnm hbs hRR
              rcases HSF.out with hr | ⟨hr, hy, k0, hin, -, hki⟩
              · subst hr
                clear HSF
                go_wp2_with fail
                refine HRD.out.mono ?_
                rintro e w8 ⟨A5, n5, c5, rfl, ho5, hb5⟩
                have g58 := (hb5.cell (World.block_lt_of_cell? _ _ g5)).trans g5
                have a28 := (hb5.cell (World.block_lt_of_cell? _ _ a2)).trans a2
                have hl5 : bs.length = n5 := by have := ho5.1; rw [cellsOf_length, Nat.mul_one] at this; exact this
                have HB8 := Lib.hid (show Below w6.heap.size w6 w8.drew from (HB7.out.trans (hb5.mono HB7.out.size)).drew)
                have hcs5 := str_any A5 n5 c5 bs w8.drew w8.heap.size hl5 ((Rd.of_own ho5).below (Below.refl _ _).drew)
                have g58d : w8.drew.cell? ⟨G, 5, none⟩ = _ := g58
                have a28d : w8.drew.cell? ⟨(a.add (k * 2)).block, (a.add (k * 2)).off + 1, none⟩ = _ := a28
                have d05 : ((0 : Int) == 5) = false := rfl
                clear ho5 hb5 hl5 HRD g5 a1 a2 HB7
                go_wp2_with fail
                go_region
                all_goals
                  clear hcs5 g58d a28d g58 a28
                  go_wp2_with fail
                  exact ⟨⟨k + 1, q, by simp, rfl, hlt, by omega, Lib.hid HBD.out.more, HB8⟩, by simp [intOf]; omega⟩
              · subst hr
                have HBN := Lib.hid (HBD.out.next HR.out.ok.fit.1.2.2 HF.out (hki ▸ hin))
                obtain rfl : q = 0 := HBN.out.1
                have hy' : ((y.toNat : Int) != 0) = true := by
                  rw [bne_iff_ne]
                  intro e
                  apply hy
                  exact UInt8.toNat_inj.1 (by simp; omega)
                clear HSF hy hin hki HBD
                go_wp2_with fail
                refine HRD.out.mono ?_
                rintro e w8 ⟨A5, n5, c5, rfl, ho5, hb5⟩
                obtain rfl : 0 = n5 := by have := ho5.1; rw [cellsOf_length, Nat.mul_one] at this; exact this
                have HB8 := Lib.hid (HB7.out.trans (hb5.mono HB7.out.size))
                clear ho5 hb5 HRD g5 a1 a2 HB7
                go_wp2_with fail
                exact ⟨⟨k + 1, 1, by simp, by simp, hlt, by omega, Lib.hid HBN.out.2, HB8⟩, by simp [intOf]; omega⟩
            · have e : k = n2 := by omega
              subst e
              have hq1 : (q : Int) ≤ 1 := by rcases HBD.out with h | ⟨h, -⟩ <;> omega
              go_wp2_with (go_at_call 10; refine (awake_any _).mono ?_; rintro e w9 ⟨rfl, hb⟩; have HB9 := Lib.hid (HBW.out.trans (hb.mono HBW.out.size)); clear hb)
              go_ret
              exact ⟨rfl, HB9.out⟩
open Go.ChangeShapes Go.WideShapes Go.ChangeAt Go.Joins
set_option maxRecDepth 100000 in
theorem storeSpoilt_lifted (os : Os) (started : os.Started) (H : Type) (enc : TypeId × Value → H) :
    ReturnsInHanded {} Tryz.checked os 6 .any (Rows.storeSpoiltSpec.pre6 enc Tryz.prog Tryz.f6 Rows.storeSpoiltRow.domain false) (Rows.storeSpoiltSpec.post enc Tryz.prog Tryz.f6 false true false false) := by
  refine returnsInHanded_of_change (C := Tryz.checked) own started (by kernel_rfl) Tryz.func6
    (ChangeSpec.witness6 (enc := enc) (C := Tryz.checked) false ⟨#[], #[.int .i64 0, .slice none 0 0, .int .i64 0, .int .i64 0, .int .u8 0], []⟩ 8 (by kernel_rfl) (by kernel_rfl) (by kernel_rfl) (by kernel_rfl)) ?_
  intro W base args ds gs before hval0 hW hcnd _
  have hval : ∀ (j : Nat) t v, Tryz.f6.params[j]? = some t → args[j]? = some v → Value.okWide Tryz.prog W .any base t v := hval0
  have hW' := hW
  obtain ⟨p, q, hA0, hV, rfl, hfz, hnd⟩ := hW
  have hA : DataW.TrodAll enc Tryz.prog W 0 (fun _ => true) true Tryz.f6.params.toList args.toList ds p := hA0
  rw [Tryz.params6] at hA hval
  obtain ⟨v0, v1, v2, v3, v4, d0, d1, d2, d3, d4, p0, p1, p2, p3, p4, rfl, rfl, rfl, h0, h1, h2, h3, h4⟩ := Lw.trodAll_five hA
  obtain ⟨count, rfl, -, -, wz⟩ := open_int Tryz.underlying3 (hval 0 3 v0 rfl rfl) h0
  obtain ⟨A, n, c, acts, rfl, hl, hnc, hc63, ha⟩ := open_sacts (hval 1 22 v1 rfl rfl) h1
  obtain ⟨i, rfl, -, -, wi⟩ := open_int Tryz.underlying3 (hval 2 3 v2 rfl rfl) h2
  obtain ⟨at_, rfl, -, -, wat⟩ := open_int Tryz.underlying3 (hval 3 3 v3 rfl rfl) h3
  obtain ⟨y, rfl, -, -, wy⟩ := open_int Tryz.underlying5 (hval 4 5 v4 rfl rfl) h4
  have hy : 0 ≤ y ∧ y < 256 := by simp [Lit.wf, IntKind.min, IntKind.max, IntKind.bits, IntKind.signed] at wy; omega
  have hy8 : y = ((UInt8.ofNat y.toNat).toNat : Int) := by rw [UInt8.toNat_ofNat']; omega
  have hwalk : Calls Tryz.prog 6 #[.int .i64 count, .slice A n c, .int .i64 i, .int .i64 at_, .int .u8 y] W fun e w' => e = .returned (.bool true) ∧ Below W.heap.size W w' := by
    rw [hy8]
    exact sspoilt_walk count A n c acts i at_ _ W hl ⟨hnc, hc63⟩ ha
  refine hwalk.mono fun e W' ⟨he, hb⟩ => ?_
  subst he
  exact ⟨_, rfl, Lw.post_true laidOut (by kernel_rfl) rfl rfl rfl rfl (by kernel_rfl) Tryz.underlying4 hW' hb⟩

/-- StoreSpoilt: with one byte of a page spoilt, each file is read as it was or told to be corrupt, and no more than one is. -/
theorem storeSpoilt_holds : Rows.StoreSpoiltSaid :=
  OpenClaim.holds_of_wide 6 Tryz.f6 rfl rfl rfl rfl rfl rfl rfl ⟨rfl, rfl, rfl, rfl, rfl⟩ rfl rfl rfl rfl rfl (by kernel_rfl) Tryz.func6 (by kernel_rfl)
    (of_decide_eq_true (by kernel_rfl)) (by unfold Func.isWrapper; rw [if_neg (of_decide_eq_false (by kernel_rfl))]; exact ⟨rfl, rfl⟩)
    (fun os started H enc _ => storeSpoilt_lifted os started H enc)
#print axioms storeSpoilt_holds
end Go.Proofs.YtiocpefgccndbaaGreat
