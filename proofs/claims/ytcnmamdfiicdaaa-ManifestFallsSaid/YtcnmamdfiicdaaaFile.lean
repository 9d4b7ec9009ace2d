/- Whether a file may stand behind others, told by the document. -/
import Derived.Test.YtcnmamdfiicdaaaMfP
import Derived.Test.YtcnmamdfiicdaaaGen
namespace Go.Proofs.Ytcnmamdfiicdaaa
open Go.RowKit Me Mf

set_option maxRecDepth 100000 in
set_option maxHeartbeats 400000 in
theorem among_any (z : Int) (A : Option Addr) (n c : Nat) (l : List Int) (w : World) (hl : l.length = n) (hn : n ≤ 9223372036854775807) (h : Cs w w.heap.size A (icells l)) :
    Calls Try.prog 69 #[.int .i64 z, .slice A n c] w (Bp w (z ∈ l)) := by
  have HL := Lib.hid hl
  have HC := Lib.hid h
  clear hl h
  go_enter Try.func69, Try.ntmps69
  go_wp2
  go_loopw [8] (fun i wr => ∃ k : Nat, k ≤ n ∧ i = .int .i64 (k : Int) ∧ Hid (z ∉ l.take k) ∧ Hid (Below w.heap.size w wr)) (fun i _ => n - (intOf i).toNat)
  case atStart => exact ⟨0, Nat.zero_le _, rfl, Lib.hid (by simp), Lib.hid (Below.refl _ _)⟩
  case round =>
    obtain ⟨k, hk, rfl, HN, HB⟩ := hrel
    by_cases hlt : k < n
    · obtain ⟨y, hy⟩ : ∃ y, l[k]? = some y := ⟨_, List.getElem?_eq_getElem (by rw [HL.out]; exact hlt)⟩
      obtain ⟨a, rfl, hab, hc⟩ := (HC.out.below HB.out).int hy
      have HY := Lib.hid hy
      clear hy
      by_cases hyz : y = z
      · have d1 : (y == z) = true := by rw [hyz]; simp
        go_wp2
        go_ret
        exact ⟨true, rfl, ⟨fun _ => by rw [← hyz]; exact List.mem_of_getElem? HY.out, fun _ => rfl⟩, HB.out⟩
      · have d1 : (y == z) = false := by rw [beq_eq_false_iff_ne]; exact hyz
        have HNX := Lib.hid (show z ∉ l.take (k + 1) from by
          rw [take_snoc HY.out]
          intro hm
          rcases List.mem_append.1 hm with hm | hm
          · exact HN.out hm
          · simp at hm; exact hyz hm.symm)
        go_wp2
        go_roundw
        case rel => exact ⟨k + 1, by omega, by go_num, HNX, HB⟩
        case measure => simp [intOf]; omega
    · have hkn : k = n := by omega
      go_wp2
      go_ret
      refine ⟨false, rfl, ⟨fun h => (by cases h), fun h => ?_⟩, HB.out⟩
      have := HN.out
      rw [hkn, ← HL.out, List.take_length] at this
      exact absurd h this
def fiG (H b : Nat) (nm : List UInt8) (m1 id x : Nat) (sz mz : Int) (A2 : Option Addr) (n2 c2 : Nat) (b1 b2 b3 b4 b5 : Bool) : Gw.Fact := fun t v _ =>
  match t with
  | 2 => v = .pointer (some ⟨H, 0, none⟩)
  | 5 | 14 => v = .pointer (some ⟨b, 0, none⟩)
  | 15 => v = .string ⟨nm.toArray⟩
  | 16 => v = .int .i64 (m1 : Int)
  | 17 | 18 => v = .bool b1
  | 19 => b1 = false → v = .pointer (some ⟨b, 0, none⟩)
  | 20 => b1 = false → v = .string ⟨nm.toArray⟩
  | 21 => b1 = false → v = .int .i64 (m1 : Int)
  | 22 => b1 = false → v = .bool b2
  | 23 | 24 => v = .bool (b1 || b2)
  | 25 => (b1 || b2) = false → v = .pointer (some ⟨b, 1, none⟩)
  | 26 => (b1 || b2) = false → v = .int .u32 (id : Int)
  | 27 => (b1 || b2) = false → v = .pointer (some ⟨H, 1, none⟩)
  | 28 => (b1 || b2) = false → v = .int .u32 (x : Int)
  | 29 => (b1 || b2) = false → v = .bool b3
  | 30 | 31 => v = .bool (b1 || b2 || b3)
  | 32 => (b1 || b2 || b3) = false → v = .pointer (some ⟨b, 2, none⟩)
  | 33 => (b1 || b2 || b3) = false → v = .int .i64 sz
  | 34 => (b1 || b2 || b3) = false → v = .bool b4
  | 35 | 36 => v = .bool (b1 || b2 || b3 || b4)
  | 37 => (b1 || b2 || b3 || b4) = false → v = .pointer (some ⟨b, 2, none⟩)
  | 38 => (b1 || b2 || b3 || b4) = false → v = .int .i64 sz
  | 39 => (b1 || b2 || b3 || b4) = false → v = .int .i64 mz
  | 40 => (b1 || b2 || b3 || b4) = false → v = .pointer (some ⟨b, 3, none⟩)
  | 41 => (b1 || b2 || b3 || b4) = false → v = .slice A2 n2 c2
  | 42 => (b1 || b2 || b3 || b4) = false → v = .int .i64 (n2 : Int)
  | 43 => (b1 || b2 || b3 || b4) = false → v = .bool b5
  | 44 => v = .bool (b1 || b2 || b3 || b4 || b5)
  | _ => True
def fjG (H b k : Nat) (a : Addr) (n c : Nat) (nm nj : List UInt8) (id ij : Nat) (c1 c2 : Bool) : Gw.Fact := fun t v _ =>
  match t with
  | 2 => v = .pointer (some ⟨H, 0, none⟩)
  | 5 => v = .pointer (some ⟨b, 0, none⟩)
  | 6 | 52 => v = .int .i64 (k : Int)
  | 50 => v = .pointer (some ⟨H, 2, none⟩)
  | 51 => v = .slice (some a) n c
  | 53 => v = .pointer (some (a.add (k * 4)))
  | 54 => v = .pointer (some ⟨(a.add (k * 4)).block, (a.add (k * 4)).off + 1, none⟩)
  | 55 => v = .int .u32 (ij : Int)
  | 56 => v = .pointer (some ⟨b, 1, none⟩)
  | 57 => v = .int .u32 (id : Int)
  | 58 | 59 => v = .bool c1
  | 60 => c1 = false → v = .pointer (some ⟨H, 2, none⟩)
  | 61 => c1 = false → v = .slice (some a) n c
  | 62 => c1 = false → v = .int .i64 (k : Int)
  | 63 | 64 => c1 = false → v = .pointer (some (a.add (k * 4)))
  | 65 => c1 = false → v = .string ⟨nj.toArray⟩
  | 66 => c1 = false → v = .pointer (some ⟨b, 0, none⟩)
  | 67 => c1 = false → v = .string ⟨nm.toArray⟩
  | 68 => c1 = false → v = .bool c2
  | 69 => v = .bool (c1 || c2)
  | _ => True
def fkG (b j : Nat) (a2 : Addr) (n2 c2 : Nat) (z : Int) (b1 b2 b3 : Bool) : Gw.Fact := fun t v _ =>
  match t with
  | 5 => v = .pointer (some ⟨b, 0, none⟩)
  | 7 | 78 => v = .int .i64 (j : Int)
  | 76 => v = .pointer (some ⟨b, 3, none⟩)
  | 77 => v = .slice (some a2) n2 c2
  | 79 => v = .pointer (some (a2.add j))
  | 80 => v = .int .i64 z
  | 81 | 82 => v = .bool b1
  | 83 => b1 = false → v = .pointer (some ⟨b, 3, none⟩)
  | 84 => b1 = false → v = .slice (some a2) n2 c2
  | 85 => b1 = false → v = .int .i64 (j : Int)
  | 86 => b1 = false → v = .pointer (some (a2.add j))
  | 87 => b1 = false → v = .int .i64 z
  | 88 => b1 = false → v = .bool b2
  | 89 | 90 => v = .bool (b1 || b2)
  | 91 | 96 => (b1 || b2) = false → v = .pointer (some ⟨b, 3, none⟩)
  | 92 | 97 => (b1 || b2) = false → v = .slice (some a2) n2 c2
  | 93 | 98 => (b1 || b2) = false → v = .int .i64 (j : Int)
  | 94 => (b1 || b2) = false → v = .pointer (some (a2.add j))
  | 95 => (b1 || b2) = false → v = .int .i64 z
  | 99 => (b1 || b2) = false → v = .slice (some a2) j c2
  | 100 => (b1 || b2) = false → v = .bool b3
  | 101 => v = .bool (b1 || b2 || b3)
  | _ => True
def flG (H b j k : Nat) (a a2 : Addr) (n c n2 c2 : Nat) (z : Int) (A4 : Option Addr) (n4 c4 : Nat) (b1 : Bool) : Gw.Fact := fun t v _ =>
  match t with
  | 2 => v = .pointer (some ⟨H, 0, none⟩)
  | 5 => v = .pointer (some ⟨b, 0, none⟩)
  | 7 | 109 => v = .int .i64 (j : Int)
  | 8 | 114 => v = .int .i64 (k : Int)
  | 107 => v = .pointer (some ⟨b, 3, none⟩)
  | 108 => v = .slice (some a2) n2 c2
  | 110 => v = .pointer (some (a2.add j))
  | 111 => v = .int .i64 z
  | 112 => v = .pointer (some ⟨H, 2, none⟩)
  | 113 => v = .slice (some a) n c
  | 115 => v = .pointer (some (a.add (k * 4)))
  | 116 => v = .pointer (some ⟨(a.add (k * 4)).block, (a.add (k * 4)).off + 3, none⟩)
  | 117 => v = .slice A4 n4 c4
  | 118 => v = .bool b1
  | _ => True
theorem Cs.take {w : World} {B : Nat} {A : Option Addr} {vs : List Value} (h : Cs w B A vs) (k : Nat) : Cs w B A (vs.take k) := fun hn => by
  obtain ⟨a, e, hb, hc⟩ := h (by rw [List.length_take] at hn; omega)
  refine ⟨a, e, hb, fun j u hu => hc j u ?_⟩
  rw [List.getElem?_take] at hu
  split at hu
  · exact hu
  · cases hu
theorem icells_take (l : List Int) (k : Nat) : (icells l).take k = icells (l.take k) := by simp [icells, List.map_take]
set_option maxRecDepth 100000 in
set_option maxHeartbeats 4000000 in
theorem rfile_any (A : Option Addr) (n c i : Nat) (m : ManD) (f : FileD) (w : World) (hn : n ≤ 1073741824) (hf : m.files[i]? = some f) (h : ManAt w w.heap.size A n c m) :
    Calls Try.prog 39 #[mval m.version m.next A n c, .int .i64 (i : Int)] w (Bp w (RefOk m.next (m.files.take i) f)) := by
  have hi : i < n := by rw [← h.len]; exact (List.getElem?_eq_some_iff.1 hf).1
  obtain ⟨HF, HL, -, -, HWF⟩ := h
  have hwf := HWF.files f (List.mem_of_getElem? hf)
  obtain ⟨v, hv⟩ : ∃ v, v = m.version := ⟨_, rfl⟩
  obtain ⟨x, hx⟩ : ∃ x, x = m.next := ⟨_, rfl⟩
  obtain ⟨l, hl⟩ : ∃ l, l = m.files := ⟨_, rfl⟩
  rw [← hv, ← hx]
  rw [← hl] at hf HF HL ⊢
  obtain ⟨a, rfl, hab, A2, n2, c2, g0, g1, g2, g3, g4, hnc2, hn2, g7⟩ := HF.get hf
  obtain ⟨nm, hnm⟩ : ∃ nm, nm = f.name := ⟨_, rfl⟩
  obtain ⟨id, hid⟩ : ∃ id : Nat, id = f.id := ⟨_, rfl⟩
  obtain ⟨sz, hsz⟩ : ∃ sz, sz = f.size := ⟨_, rfl⟩
  obtain ⟨bs, hbs⟩ : ∃ bs, bs = f.blocks := ⟨_, rfl⟩
  obtain ⟨mz, hmz⟩ : ∃ mz, mz = manyZ sz := ⟨_, rfl⟩
  have HMANY := Lib.hid (show ∀ w, Calls Try.prog 37 #[.int .i64 sz] w fun e w' => e = .returned (.int .i64 mz) ∧ w = w' from fun w => by rw [hmz]; exact ref_many_any sz w (by rw [hsz]; exact hwf.high))
  rw [← hnm] at g0
  rw [← hid] at g1
  rw [← hsz] at g2
  rw [← hbs] at g4 g7
  obtain ⟨m1, hm1⟩ : ∃ m1, m1 = nm.length := ⟨_, rfl⟩
  have hs1 : (ByteArray.mk nm.toArray).size = m1 := by rw [hm1]; exact List.size_toArray ..
  obtain ⟨wz, hwz⟩ : ∃ wz, wz = (w.alloc (.cells #[.int .u64 (v : Int), .int .u32 (x : Int), .slice (some a) n c] 28)).alloc (fbox nm id sz A2 n2 c2) := ⟨_, rfl⟩
  have HB0 := Lib.hid (show Below w.heap.size w wz by rw [hwz]; exact ((Below.refl _ _).alloc (Nat.le_refl _) _).alloc (by simp) _)
  have hzs : wz.heap.size = w.heap.size + 2 := by rw [hwz]; simp
  have p1 : wz.cell? ⟨w.heap.size, 1, none⟩ = some (.int .u32 (x : Int)) := by rw [hwz, World.cell?_alloc_lt _ _ _ (by simp)]; simp only [World.cell?, heap_alloc_new]; rfl
  have p2 : wz.cell? ⟨w.heap.size, 2, none⟩ = some (.slice (some a) n c) := by rw [hwz, World.cell?_alloc_lt _ _ _ (by simp)]; simp only [World.cell?, heap_alloc_new]; rfl
  have hbx : wz.heap[w.heap.size + 1]? = some (fbox nm id sz A2 n2 c2) := by
    rw [hwz]
    have := heap_alloc_new (w.alloc (.cells #[.int .u64 (v : Int), .int .u32 (x : Int), .slice (some a) n c] 28)) (fbox nm id sz A2 n2 c2)
    simpa using this
  have HP := Lib.hid (And.intro p1 (And.intro p2 (fbox_cells hbx)))
  have HZS := Lib.hid hzs
  have HWZ := Lib.hid hwz
  have HFF := Lib.hid HF
  have HLL := Lib.hid HL
  have HC := Lib.hid g7
  have HN2 := Lib.hid g4
  have HFI := Lib.hid hf
  have HE := Lib.hid (And.intro hnm (And.intro hid (And.intro hsz (And.intro hbs (And.intro hmz hm1)))))
  have hab' : (a.add (i * 4)).block < w.heap.size := by rw [block_add]; exact hab
  clear HF HL hf hwf hv hx hl hnm hid hsz hbs hmz hm1 g4 g7 hwz hzs p1 p2 hbx HWF
  go_enter Try.func39, Try.ntmps39
  go_wp2_with fail
  rw [← HWZ.out]
  clear HWZ g0 g1 g2 g3
  obtain ⟨H, hH⟩ : ∃ H, H = w.heap.size := ⟨_, rfl⟩
  obtain ⟨b, hb⟩ : ∃ b, b = w.heap.size + 1 := ⟨_, rfl⟩
  have hbH : b = H + 1 := by omega
  rw [← hb, ← hH]
  rw [← hb, ← hH] at HP
  have HZS2 := Lib.hid (show wz.heap.size = b + 1 by have := HZS.out; omega)
  have hbh1 : H < b := by omega
  have hbh2 : b ≤ H + 1 := by omega
  have hbw1 : w.heap.size < b := by omega
  have hbw2 : b ≤ w.heap.size + 1 := by omega
  clear hbH hb hH
  obtain ⟨b1, q1⟩ : ∃ b1, decide ((m1 : Int) < 1) = b1 := ⟨_, rfl⟩
  obtain ⟨b2, q2⟩ : ∃ b2, decide ((32 : Int) < (m1 : Int)) = b2 := ⟨_, rfl⟩
  obtain ⟨b3, q3⟩ : ∃ b3, decide ((x : Int) ≤ (id : Int)) = b3 := ⟨_, rfl⟩
  obtain ⟨b4, q4⟩ : ∃ b4, decide (sz < 0) = b4 := ⟨_, rfl⟩
  obtain ⟨b5, q5⟩ : ∃ b5, (mz != (n2 : Int)) = b5 := ⟨_, rfl⟩
  have HQ := Lib.hid (And.intro q1 (And.intro q2 (And.intro q3 (And.intro q4 q5))))
  clear q1 q2 q3 q4 q5
  refine Gw.wp_region_grow (fiG H b nm m1 id x sz mz A2 n2 c2 b1 b2 b3 b4 b5) [14, 15, 16, 17, 18, 19, 20, 21, 22, 23, 24, 25, 26, 27, 28, 29, 30, 31, 32, 33, 34, 35, 36, 37, 38, 39, 40, 41, 42, 43, 44] [([5], none), ([14], none), ([15], none), ([16], none), ([17], none), ([5, 18], some (18, false)), ([19, 18], some (18, false)), ([20, 18], some (18, false)), ([21, 18], some (18, false)), ([18, 22], none), ([23], none), ([5, 24], some (24, false)), ([25, 24], some (24, false)), ([2, 24], some (24, false)), ([27, 24], some (24, false)), ([26, 28, 24], some (24, false)), ([24, 29], none), ([30], none), ([5, 31], some (31, false)), ([32, 31], some (31, false)), ([33, 31], some (31, false)), ([31, 34], none), ([35], none), ([5, 36], some (36, false)), ([37, 36], some (36, false)), ([38, 36], some (36, false)), ([5, 36], some (36, false)), ([40, 36], some (36, false)), ([41, 36], some (36, false)), ([39, 42, 36], some (36, false)), ([36, 43], none)] 120 (by kernel_rfl) (by kernel_rfl) rfl ?h0 ?hreq ?hend
  case h0 =>
    intro t W hnd _
    unfold fiG
    split <;> first | rfl | trivial | exact absurd (by simp) hnd
  case hreq =>
    refine ⟨?_, ?_, ?_, ?_, ?_, ?_, ?_, ?_, ?_, ?_, ?_, ?_, ?_, ?_, ?_, ?_, ?_, ?_, ?_, ?_, ?_, ?_, ?_, ?_, ?_, ?_, ?_, ?_, ?_, ?_, ?_, trivial⟩
    all_goals
      intro ac W hg hk
      have hg' : Below wz.heap.size wz W := hg
      have hcb : ∀ j, W.cell? ⟨b, j, none⟩ = wz.cell? ⟨b, j, none⟩ := fun j => hg'.cell (p := ⟨b, j, none⟩) (by rw [HZS2.out]; exact Nat.lt_succ_self _)
      have hch : ∀ j, W.cell? ⟨H, j, none⟩ = wz.cell? ⟨H, j, none⟩ := fun j => hg'.cell (p := ⟨H, j, none⟩) (by show H < _; have := HZS2.out; omega)
      have k0 := (hch 1).trans HP.out.1
      have k1 := (hcb 0).trans HP.out.2.2.1
      have k2 := (hcb 1).trans HP.out.2.2.2.1
      have k3 := (hcb 2).trans HP.out.2.2.2.2.1
      have k4 := (hcb 3).trans HP.out.2.2.2.2.2
      obtain ⟨q1, q2, q3, q4, q5⟩ := HQ.out
      have q3' : decide (x ≤ id) = b3 := by rw [← q3]; simp
      simp only [Gw.Knows, fiG] at hk
      first
        | (simp [go_sem, Gw.OpReq, Gw.Ok, Gw.Post, Gw.Holds, fiG, Gw.Grows.refl, hk, k1, hs1, q1]; done)
        | (cases b1 <;> cases b2 <;> cases b3 <;> cases b4 <;> (simp [go_sem, Gw.OpReq, Gw.Ok, Gw.Post, Gw.Holds, fiG, Gw.Grows.refl, hk, k0, k1, k2, k3, k4, q2, q3, q3', q4, q5, hs1]; done))
        | skip
    obtain ⟨g, hg'⟩ : ∃ g, (b1 || b2 || b3 || b4) = g := ⟨_, rfl⟩
    rw [hg'] at hk
    cases g
    · simp [go_sem, Gw.OpReq, Gw.Ok, Gw.Post, Gw.Holds, fiG, Gw.Grows.refl, hk]
      refine (HMANY.out _).mono ?_
      rintro e w' ⟨rfl, rfl⟩
      simp [go_sem, Gw.Grows.refl]
    · simp [go_sem, Gw.OpReq, Gw.Post, Gw.Holds, fiG, hk, hg']
  case hend =>
    intro y wq hg hy
    have h44 : y 44 = .bool (b1 || b2 || b3 || b4 || b5) := (hy 44 (by simp)).now
    have hq : Below (b + 1) wz wq := Below.mono (show Below wz.heap.size wz wq from hg) (by rw [HZS2.out]; exact Nat.le_refl _)
    have HQB := Lib.hid hq
    simp only [Gw.putAll, Act.put, List.setIfInBounds_toArray, List.set_cons_zero, List.set_cons_succ]
    rw [h44]
    clear h44 hy hg hq
    have HCELL := Lib.hid (show ∀ W, Below (b + 1) wz W → W.cell? ⟨H, 2, none⟩ = some (.slice (some a) n c) ∧ W.cell? ⟨b, 0, none⟩ = some (.string ⟨nm.toArray⟩) ∧ W.cell? ⟨b, 1, none⟩ = some (.int .u32 (id : Int)) ∧ W.cell? ⟨b, 3, none⟩ = some (.slice A2 n2 c2) from by
      intro W hW
      have hcb : ∀ j, W.cell? ⟨b, j, none⟩ = wz.cell? ⟨b, j, none⟩ := fun j => hW.cell (p := ⟨b, j, none⟩) (Nat.lt_succ_self _)
      have hch : ∀ j, W.cell? ⟨H, j, none⟩ = wz.cell? ⟨H, j, none⟩ := fun j => hW.cell (p := ⟨H, j, none⟩) (by show H < b + 1; omega)
      exact ⟨(hch 2).trans HP.out.2.1, (hcb 0).trans HP.out.2.2.1, (hcb 1).trans HP.out.2.2.2.1, (hcb 3).trans HP.out.2.2.2.2.2⟩)
    have HBW := Lib.hid (show ∀ W, Below (b + 1) wz W → Below w.heap.size w W from fun W hW => HB0.out.trans (hW.mono (by omega)))
    obtain ⟨s, hs⟩ : ∃ s, (b1 || b2 || b3 || b4 || b5) = s := ⟨_, rfl⟩
    rw [hs]
    have HS := Lib.hid hs
    clear hs
    cases s with
    | true =>
      go_wp2
      go_ret
      refine ⟨false, rfl, ⟨fun h => (by cases h), fun h => ?_⟩, HBW.out _ HQB.out⟩
      obtain ⟨u1, u2, u3, -, -, -, -⟩ := h
      obtain ⟨q1, q2, q3, q4, q5⟩ := HQ.out
      obtain ⟨e1, e2, e3, e4, e5, e6⟩ := HE.out
      have hs := HS.out
      rw [← q1, ← q2, ← q3, ← q4, ← q5, e5, e3, u3.2, ← e4, HN2.out, e6, e1, e2] at hs
      simp at hs
      have := u3.1
      omega
    | false =>
      have HOK := Lib.hid (show (1 ≤ f.name.length ∧ f.name.length ≤ 32) ∧ f.id < x ∧ (0 ≤ f.size ∧ manyZ f.size = f.blocks.length) from by
        obtain ⟨q1, q2, q3, q4, q5⟩ := HQ.out
        obtain ⟨e1, e2, e3, e4, e5, e6⟩ := HE.out
        have hs := HS.out
        rw [← q1, ← q2, ← q3, ← q4, ← q5] at hs
        simp at hs
        obtain ⟨⟨⟨⟨h1, h2⟩, h3⟩, h4⟩, h5⟩ := hs
        rw [← e1, ← e2, ← e3, ← e4, ← e5, h5, HN2.out, ← e6]
        omega)
      clear HQ HS
      go_wp2
      go_loopw [6] (fun p wr => ∃ k : Nat, k ≤ i ∧ p = .int .i64 (k : Int) ∧ Hid (∀ g ∈ l.take k, g.id ≠ f.id ∧ less g.name f.name = true) ∧ Hid (Below (b + 1) wz wr) ∧ b < wr.heap.size) (fun p _ => i - (intOf p).toNat)
      case atStart => exact ⟨0, Nat.zero_le _, rfl, Lib.hid (fun g h => by simp at h), HQB, by have := HQB.out.size; rw [HZS2.out] at this; exact this⟩
      case round =>
        obtain ⟨k, hk, rfl, HA, HB, hbs⟩ := hrel
        have HBR := Lib.hid (HBW.out _ HB.out)
        by_cases hlt : k < i
        · obtain ⟨a', g, hae, -, hgk, A3, n3, c3, e0, e1, -⟩ := (HFF.out.below HBR.out).at (i := k) (by rw [HLL.out]; omega)
          injection hae with hae
          subst hae
          have hkn : k < n := by omega
          have HGK := Lib.hid hgk
          obtain ⟨nj, hnj⟩ : ∃ nj, nj = g.name := ⟨_, rfl⟩
          obtain ⟨ij, hij⟩ : ∃ ij : Nat, ij = g.id := ⟨_, rfl⟩
          rw [← hnj] at e0
          rw [← hij] at e1
          obtain ⟨c1, r1⟩ : ∃ c1, ((ij : Int) == (id : Int)) = c1 := ⟨_, rfl⟩
          obtain ⟨c2', r2⟩ : ∃ c2', (!Op.bytesLess nj nm) = c2' := ⟨_, rfl⟩
          have HR1 := Lib.hid r1
          have HR2 := Lib.hid r2
          have HNJ := Lib.hid (And.intro hnj hij)
          have HE0 := Lib.hid e0
          have HE1 := Lib.hid e1
          have hab2 : (a.add (k * 4)).block < w.heap.size := by rw [block_add]; exact hab
          clear hgk hnj hij r1 r2 e0 e1
          go_wp2_with fail
          refine Gw.wp_region_grow (fjG H b k a n c nm nj id ij c1 c2') [50, 51, 52, 53, 54, 55, 56, 57, 58, 59, 60, 61, 62, 63, 64, 65, 66, 67, 68, 69] [([2], none), ([50], none), ([6], none), ([51, 52], none), ([53], none), ([54], none), ([5], none), ([56], none), ([55, 57], none), ([58], none), ([2, 59], some (59, false)), ([60, 59], some (59, false)), ([6, 59], some (59, false)), ([61, 62, 59], some (59, false)), ([63, 59], some (59, false)), ([64, 59], some (59, false)), ([5, 59], some (59, false)), ([66, 59], some (59, false)), ([65, 67, 59], some (59, false)), ([59, 68], none)] 120 (by kernel_rfl) (by kernel_rfl) rfl ?h0 ?hreq ?hend
          case h0 =>
            intro t W hnd _
            unfold fjG
            split <;> first | rfl | trivial | exact absurd (by simp) hnd
          case hreq =>
            refine ⟨?_, ?_, ?_, ?_, ?_, ?_, ?_, ?_, ?_, ?_, ?_, ?_, ?_, ?_, ?_, ?_, ?_, ?_, ?_, ?_, trivial⟩
            all_goals
              intro ac W hg hk
              have hg' : Below wr.heap.size wr W := hg
              obtain ⟨k0, k1, k2, -⟩ := HCELL.out W (HB.out.trans (hg'.mono (by omega)))
              have k3 : W.cell? (a.add (k * 4)) = _ := (hg'.cell (by omega)).trans HE0.out
              have k4 : W.cell? ⟨(a.add (k * 4)).block, (a.add (k * 4)).off + 1, none⟩ = _ := (hg'.cell (p := ⟨_, _, none⟩) (by show (a.add (k * 4)).block < _; omega)).trans HE1.out
              have q1 := HR1.out
              have q2 := HR2.out
              have q1' : (ij == id) = c1 := by rw [← q1, Bool.eq_iff_iff, beq_iff_eq, beq_iff_eq]; omega
              simp only [Gw.Knows, fjG] at hk
              first
                  | (simp [go_sem, Gw.OpReq, Gw.Ok, Gw.Post, Gw.Holds, fjG, Gw.Grows.refl, hk, k0, k1, k2, k3, k4, q1, q1', q2, hkn]; done)
                  | (cases c1 <;> (simp [go_sem, Gw.OpReq, Gw.Ok, Gw.Post, Gw.Holds, fjG, Gw.Grows.refl, hk, k0, k1, k2, k3, k4, q1, q1', q2, hkn]; done))
                  | skip
          case hend =>
            intro y wp hg hy
            have h69 : y 69 = .bool (c1 || c2') := (hy 69 (by simp)).now
            have HBP := Lib.hid (HB.out.trans (Below.mono (show Below wr.heap.size wr wp from hg) (by omega)))
            have hps : b < wp.heap.size := Nat.lt_of_lt_of_le hbs hg.size
            simp only [Gw.putAll, Act.put, List.setIfInBounds_toArray, List.set_cons_zero, List.set_cons_succ]
            rw [h69]
            clear h69 hy hg
            obtain ⟨cc, hcc⟩ : ∃ cc, (c1 || c2') = cc := ⟨_, rfl⟩
            rw [hcc]
            have HCC := Lib.hid hcc
            clear hcc
            cases cc with
            | true =>
              go_wp2
              go_ret
              refine ⟨false, rfl, ⟨fun h => (by cases h), fun h => ?_⟩, HBW.out _ HBP.out⟩
              have hgm : g ∈ l.take i := List.mem_of_getElem? (i := k) (by rw [List.getElem?_take, if_pos hlt]; exact HGK.out)
              obtain ⟨u1, u2⟩ := h.ahead g hgm
              have hs := HCC.out
              rw [← HR1.out, ← HR2.out] at hs
              have e1 := HNJ.out.1
              have e2 := HNJ.out.2
              have e3 := HE.out.1
              have e4 := HE.out.2.1
              rw [← e1, ← e3] at u2
              have u2' : Op.bytesLess nj nm = true := u2
              rw [u2'] at hs
              simp at hs
              omega
            | false =>
              have HAX := Lib.hid (show ∀ g' ∈ l.take (k + 1), g'.id ≠ f.id ∧ less g'.name f.name = true from by
                rw [take_snoc HGK.out]
                intro g' hg'
                rcases List.mem_append.1 hg' with hg' | hg'
                · exact HA.out g' hg'
                · simp at hg'
                  subst hg'
                  have hs := HCC.out
                  rw [← HR1.out, ← HR2.out] at hs
                  simp at hs
                  rw [← HNJ.out.1, ← HNJ.out.2, ← HE.out.1, ← HE.out.2.1]
                  exact ⟨by omega, hs.2⟩)
              go_wp2
              go_roundw
              case rel => exact ⟨k + 1, by omega, by go_num, HAX, HBP, hps⟩
              case measure => simp [intOf]; omega
        · have hki : k = i := by omega
          subst hki
          have r3 := (HCELL.out _ HB.out).2.2.2
          obtain ⟨wo, hwo⟩ : ∃ wo, wo = wr := ⟨_, rfl⟩
          rw [← hwo] at HB hbs HBR r3 ⊢
          clear hwo
          go_wp2
          go_loopw [73] (fun p wr => ∃ j : Nat, j ≤ n2 ∧ p = .int .i64 (j : Int) ∧ Hid (∀ z ∈ bs.take j, (32 ≤ z ∧ z < 65536) ∧ ∀ g ∈ l.take k, z ∉ g.blocks) ∧ Hid ((bs.take j).Nodup) ∧ Hid (Below (b + 1) wz wr) ∧ b < wr.heap.size) (fun p _ => n2 - (intOf p).toNat)
          case atStart => exact ⟨0, Nat.zero_le _, rfl, Lib.hid (fun g h => by simp at h), Lib.hid (by simp), HB, hbs⟩
          case round =>
            clear r3 HB hbs HBR
            obtain ⟨j, hj, rfl, HJ, HND, HB, hbs⟩ := hrel
            have HBR := Lib.hid (HBW.out _ HB.out)
            by_cases hjl : j < n2
            · obtain ⟨z, hz⟩ : ∃ z, bs[j]? = some z := ⟨_, List.getElem?_eq_getElem (by rw [HN2.out]; exact hjl)⟩
              obtain ⟨a2, rfl, hab2, -⟩ := HC.out.int hz
              have HCW := Lib.hid (HC.out.below HBR.out)
              have HZ := Lib.hid hz
              obtain ⟨b1, r1⟩ : ∃ b1, decide (z < 32) = b1 := ⟨_, rfl⟩
              obtain ⟨b2, r2⟩ : ∃ b2, decide (65536 ≤ z) = b2 := ⟨_, rfl⟩
              obtain ⟨b3, r3⟩ : ∃ b3, decide (z ∈ bs.take j) = b3 := ⟨_, rfl⟩
              have HR1 := Lib.hid r1
              have HR2 := Lib.hid r2
              have HR3 := Lib.hid r3
              clear hz r1 r2 r3
              go_wp2_with fail
              refine Gw.wp_region_grow (fkG b j a2 n2 c2 z b1 b2 b3) [76, 77, 78, 79, 80, 81, 82, 83, 84, 85, 86, 87, 88, 89, 90, 91, 92, 93, 94, 95, 96, 97, 98, 99, 100, 101] [([5], none), ([76], none), ([7], none), ([77, 78], none), ([79], none), ([80], none), ([81], none), ([5, 82], some (82, false)), ([83, 82], some (82, false)), ([7, 82], some (82, false)), ([84, 85, 82], some (82, false)), ([86, 82], some (82, false)), ([87, 82], some (82, false)), ([82, 88], none), ([89], none), ([5, 90], some (90, false)), ([91, 90], some (90, false)), ([7, 90], some (90, false)), ([92, 93, 90], some (90, false)), ([94, 90], some (90, false)), ([5, 90], some (90, false)), ([96, 90], some (90, false)), ([7, 90], some (90, false)), ([97, 98, 90], some (90, false)), ([95, 99, 90], some (90, false)), ([90, 100], none)] 120 (by kernel_rfl) (by kernel_rfl) rfl ?h0 ?hreq ?hend
              case h0 =>
                intro t W hnd _
                unfold fkG
                split <;> first | rfl | trivial | exact absurd (by simp) hnd
              case hreq =>
                refine ⟨?_, ?_, ?_, ?_, ?_, ?_, ?_, ?_, ?_, ?_, ?_, ?_, ?_, ?_, ?_, ?_, ?_, ?_, ?_, ?_, ?_, ?_, ?_, ?_, ?_, ?_, trivial⟩
                all_goals
                  intro ac W hg hk
                  have hg' : Below wr.heap.size wr W := hg
                  obtain ⟨-, -, -, k3⟩ := HCELL.out W (HB.out.trans (hg'.mono (by omega)))
                  have hcw := (HCW.out.below (hg'.mono HBR.out.size)).int HZ.out
                  obtain ⟨a2', e2, -, k4⟩ := hcw
                  injection e2 with e2
                  subst e2
                  have q1 := HR1.out
                  have q2 := HR2.out
                  have hjc : j ≤ c2 := by omega
                  simp only [Gw.Knows, fkG] at hk
                  first
                      | (simp [go_sem, Gw.OpReq, Gw.Ok, Gw.Post, Gw.Holds, fkG, Gw.Grows.refl, hk, k3, k4, q1, q2, hjl, hjc]; done)
                      | (cases b1 <;> (simp [go_sem, Gw.OpReq, Gw.Ok, Gw.Post, Gw.Holds, fkG, Gw.Grows.refl, hk, k3, k4, q1, q2, hjl, hjc]; done))
                      | (cases b1 <;> cases b2 <;> (simp [go_sem, Gw.OpReq, Gw.Ok, Gw.Post, Gw.Holds, fkG, Gw.Grows.refl, hk, k3, k4, q1, q2, hjl, hjc]; done))
                      | skip
                obtain ⟨g, hgd⟩ : ∃ g, (b1 || b2) = g := ⟨_, rfl⟩
                rw [hgd] at hk
                cases g
                · simp [go_sem, Gw.OpReq, Gw.Ok, Gw.Post, Gw.Holds, fkG, Gw.Grows.refl, hk]
                  have hW := HCW.out.below (hg'.mono HBR.out.size)
                  have hWB : w.heap.size ≤ W.heap.size := (HBR.out.trans (hg'.mono HBR.out.size)).size
                  refine (among_any z (some a2) j c2 (bs.take j) W (by rw [List.length_take, HN2.out]; omega) (by omega) ?_).mono ?_
                  · rw [← icells_take]; exact (hW.more hWB).take j
                  · rintro e w' ⟨bb, rfl, hbb, hB⟩
                    refine ⟨_, rfl, hB, fun _ _ _ _ => ?_⟩
                    have hbb3 : bb = b3 := by rw [← HR3.out]; exact Bool.eq_iff_iff.2 (hbb.trans (by simp))
                    rw [hbb3]
                · simp [go_sem, Gw.OpReq, Gw.Post, Gw.Holds, fkG, hk, hgd]
              case hend =>
                intro y wp hg hy
                have h101 : y 101 = .bool (b1 || b2 || b3) := (hy 101 (by simp)).now
                have HBP := Lib.hid (HB.out.trans (Below.mono (show Below wr.heap.size wr wp from hg) (by omega)))
                have hps : b < wp.heap.size := Nat.lt_of_lt_of_le hbs hg.size
                simp only [Gw.putAll, Act.put, List.setIfInBounds_toArray, List.set_cons_zero, List.set_cons_succ]
                rw [h101]
                clear h101 hy hg HBR HCW
                obtain ⟨cc, hcc⟩ : ∃ cc, (b1 || b2 || b3) = cc := ⟨_, rfl⟩
                rw [hcc]
                have HCC := Lib.hid hcc
                clear hcc
                cases cc with
                | true =>
                  go_wp2
                  go_ret
                  refine ⟨false, rfl, ⟨fun h => (by cases h), fun h => ?_⟩, HBW.out _ HBP.out⟩
                  have hzm : z ∈ f.blocks := by rw [← HE.out.2.2.2.1]; exact List.mem_of_getElem? HZ.out
                  have hr := h.range z hzm
                  have hs := HCC.out
                  rw [← HR1.out, ← HR2.out, ← HR3.out] at hs
                  simp at hs
                  have hnd := h.nodup
                  rw [← HE.out.2.2.2.1] at hnd
                  have hnd1 : (bs.take (j + 1)).Nodup := hnd.sublist (List.take_sublist _ _)
                  rw [take_snoc HZ.out, nodup_snoc] at hnd1
                  rcases hs with (hs | hs) | hs
                  · omega
                  · omega
                  · exact absurd hs hnd1.2
                | false =>
                  have HZOK := Lib.hid (show (32 ≤ z ∧ z < 65536) ∧ z ∉ bs.take j from by
                    have hs := HCC.out
                    rw [← HR1.out, ← HR2.out, ← HR3.out] at hs
                    simp at hs
                    exact ⟨by omega, hs.2⟩)
                  clear HCC HR1 HR2 HR3
                  obtain ⟨wo2, hwo2⟩ : ∃ wo2, wo2 = wp := ⟨_, rfl⟩
                  rw [← hwo2] at HBP hps ⊢
                  clear hwo2 HB hbs
                  go_wp2
                  go_loopw [8] (fun p wr => ∃ k' : Nat, k' ≤ k ∧ p = .int .i64 (k' : Int) ∧ Hid (∀ g ∈ l.take k', z ∉ g.blocks) ∧ Hid (Below (b + 1) wz wr) ∧ b < wr.heap.size) (fun p _ => k - (intOf p).toNat)
                  case atStart => exact ⟨0, Nat.zero_le _, rfl, Lib.hid (fun g h => by simp at h), HBP, hps⟩
                  case round =>
                    clear HBP hps
                    obtain ⟨k', hk', rfl, HG, HB, hbs⟩ := hrel
                    have HBR := Lib.hid (HBW.out _ HB.out)
                    by_cases hkl : k' < k
                    · obtain ⟨a', g, hae, -, hgk, A4, n4, c4, -, -, -, e3, e4, -, e6, e7⟩ := (HFF.out.below HBR.out).at (i := k') (by rw [HLL.out]; omega)
                      injection hae with hae
                      subst hae
                      have hkn : k' < n := by omega
                      have HGK := Lib.hid hgk
                      have HE3 := Lib.hid e3
                      have HE4 := Lib.hid e4
                      have HE7 := Lib.hid e7
                      have HCW := Lib.hid (HC.out.below HBR.out)
                      have hab2 : (a.add (k' * 4)).block < w.heap.size := by rw [block_add]; exact hab
                      obtain ⟨b4, r4⟩ : ∃ b4, decide (z ∈ g.blocks) = b4 := ⟨_, rfl⟩
                      have HR4 := Lib.hid r4
                      clear hgk e3 e4 e7 r4
                      go_wp2_with fail
                      refine Gw.wp_region_grow (flG H b j k' a a2 n c n2 c2 z A4 n4 c4 b4) [107, 108, 109, 110, 111, 112, 113, 114, 115, 116, 117, 118] [([5], none), ([107], none), ([7], none), ([108, 109], none), ([110], none), ([2], none), ([112], none), ([8], none), ([113, 114], none), ([115], none), ([116], none), ([111, 117], none)] 120 (by kernel_rfl) (by kernel_rfl) rfl ?h0 ?hreq ?hend
                      case h0 =>
                        intro t W hnd _
                        unfold flG
                        split <;> first | rfl | trivial | exact absurd (by simp) hnd
                      case hreq =>
                        refine ⟨?_, ?_, ?_, ?_, ?_, ?_, ?_, ?_, ?_, ?_, ?_, ?_, trivial⟩
                        all_goals
                          intro ac W hg hk
                          have hg' : Below wr.heap.size wr W := hg
                          obtain ⟨k0, -, -, k3⟩ := HCELL.out W (HB.out.trans (hg'.mono (by omega)))
                          have hcw := (HCW.out.below (hg'.mono HBR.out.size)).int HZ.out
                          obtain ⟨a2', e2, -, k4⟩ := hcw
                          injection e2 with e2
                          subst e2
                          have k5 : W.cell? ⟨(a.add (k' * 4)).block, (a.add (k' * 4)).off + 3, none⟩ = _ := (hg'.cell (p := ⟨_, _, none⟩) (by show (a.add (k' * 4)).block < _; omega)).trans HE3.out
                          simp only [Gw.Knows, flG] at hk
                          first
                              | (simp [go_sem, Gw.OpReq, Gw.Ok, Gw.Post, Gw.Holds, flG, Gw.Grows.refl, hk, k0, k3, k4, k5, hjl, hkn]; done)
                              | skip
                        simp [go_sem, Gw.OpReq, Gw.Ok, Gw.Post, Gw.Holds, flG, Gw.Grows.refl, hk]
                        have hW := HE7.out.below (hg'.mono HBR.out.size)
                        have hWB : w.heap.size ≤ W.heap.size := (HBR.out.trans (hg'.mono HBR.out.size)).size
                        refine (among_any z A4 n4 c4 g.blocks W HE4.out e6 (hW.more hWB)).mono ?_
                        rintro e w' ⟨bb, rfl, hbb, hB⟩
                        refine ⟨_, rfl, hB, fun _ _ => ?_⟩
                        have hbb3 : bb = b4 := by rw [← HR4.out]; exact Bool.eq_iff_iff.2 (hbb.trans (by simp))
                        rw [hbb3]
                      case hend =>
                        intro y wp hg hy
                        have h118 : y 118 = .bool b4 := (hy 118 (by simp)).now
                        have HBP := Lib.hid (HB.out.trans (Below.mono (show Below wr.heap.size wr wp from hg) (by omega)))
                        have hps : b < wp.heap.size := Nat.lt_of_lt_of_le hbs hg.size
                        simp only [Gw.putAll, Act.put, List.setIfInBounds_toArray, List.set_cons_zero, List.set_cons_succ]
                        rw [h118]
                        clear h118 hy hg HBR HCW
                        cases b4 with
                        | true =>
                          go_wp2
                          go_ret
                          refine ⟨false, rfl, ⟨fun h => (by cases h), fun h => ?_⟩, HBW.out _ HBP.out⟩
                          have hzm : z ∈ f.blocks := by rw [← HE.out.2.2.2.1]; exact List.mem_of_getElem? HZ.out
                          have hgm : g ∈ l.take k := List.mem_of_getElem? (i := k') (by rw [List.getElem?_take, if_pos hkl]; exact HGK.out)
                          have := HR4.out
                          simp at this
                          exact (h.apart z hzm g hgm this).elim
                        | false =>
                          have HGX := Lib.hid (show ∀ g' ∈ l.take (k' + 1), z ∉ g'.blocks from by
                            rw [take_snoc HGK.out]
                            intro g' hg'
                            rcases List.mem_append.1 hg' with hg' | hg'
                            · exact HG.out g' hg'
                            · simp at hg'
                              subst hg'
                              have := HR4.out
                              simpa using this)
                          go_wp2
                          go_roundw
                          case rel => exact ⟨k' + 1, by omega, by go_num, HGX, HBP, hps⟩
                          case measure => simp [intOf]; omega
                    · have hkk : k' = k := by omega
                      subst hkk
                      have HJX := Lib.hid (show ∀ z' ∈ bs.take (j + 1), (32 ≤ z' ∧ z' < 65536) ∧ ∀ g ∈ l.take k', z' ∉ g.blocks from by
                        rw [take_snoc HZ.out]
                        intro z' hz'
                        rcases List.mem_append.1 hz' with hz' | hz'
                        · exact HJ.out z' hz'
                        · simp at hz'
                          subst hz'
                          exact ⟨HZOK.out.1, HG.out⟩)
                      have HNX := Lib.hid (show (bs.take (j + 1)).Nodup from by rw [take_snoc HZ.out, nodup_snoc]; exact ⟨HND.out, HZOK.out.2⟩)
                      go_wp2
                      go_roundw
                      case rel => exact ⟨j + 1, by omega, by go_num, HJX, HNX, HB, hbs⟩
                      case measure => simp [intOf]; omega
            · have hjn : j = n2 := by omega
              subst hjn
              have e : bs.take j = bs := by rw [← HN2.out, List.take_length]
              have hj' := HJ.out
              have hnd' := HND.out
              rw [e, HE.out.2.2.2.1] at hj' hnd'
              have HJJ := Lib.hid hj'
              have HNN := Lib.hid hnd'
              clear hj' hnd' e HJ HND
              go_wp2
              go_ret
              exact ⟨true, rfl, ⟨fun _ => ⟨HOK.out.1, HOK.out.2.1, HOK.out.2.2, HA.out, fun z hz => (HJJ.out z hz).1, HNN.out, fun z hz => (HJJ.out z hz).2⟩, fun _ => rfl⟩, HBR.out⟩
end Go.Proofs.Ytcnmamdfiicdaaa
