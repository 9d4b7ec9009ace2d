/- One step of the building of a table: fill. -/
import Derived.Test.YtoflbfkmkalgcaaAlA
namespace Go.Proofs.Ytoflbfkmkalgcaa
open Go.RowKit Me Va Al

/-- A number that stands in memory. -/
def memNat (w : World) (g o : Nat) : Nat := match w.cell? ⟨g, o, none⟩ with
  | some (.int _ z) => z.toNat
  | _ => 0
theorem memNat_of {w : World} {g o n : Nat} {k : IntKind} (h : w.cell? ⟨g, o, none⟩ = some (.int k (n : Int))) : memNat w g o = n := by
  unfold memNat
  rw [h]
  simp
set_option maxRecDepth 100000 in
set_option maxHeartbeats 4000000 in
theorem fill_any {W : World} {lo g : Nat} {aR aS : Addr} {d cR cS w ab i J : Nat} {s : StD} (h : FilAt W lo g aR aS d cR cS w ab s) (hi : i < d) (hd : d ≤ 1000000) (hp : gt s.rest i < w) (hJ : FstA w s.rest J) (hab : ab ≤ J)
    (hmax : ∀ k, gt s.rest k < 9223372036854775808) :
    Calls Try.prog 31 #[.pointer (some ⟨g, 0, none⟩), .int .i64 (i : Int)] W fun e W' => e = .returned (.int .i64 (J : Int)) ∧ FilAt W' lo g aR aS d cR cS w J (upd w s i J) ∧ Below lo W W' := by
  have hJd : J < d := by have := hJ.lt; rw [h.rest.len] at this; exact this
  obtain ⟨lo1, lo2, lo3⟩ := h.low (by omega)
  have HF := Lib.hid h
  have HJ := Lib.hid hJ
  have HMX := Lib.hid hmax
  have HP := Lib.hid hp
  have HLO := Lib.hid (And.intro lo1 (And.intro lo2 lo3))
  have hlg := h.lo
  clear h hJ hmax hp lo1 lo2 lo3
  go_enter Try.func31, Try.ntmps31
  go_wp2
  go_loopw [] (fun wr => ∃ a : Nat, a ≤ J ∧ Hid (FilAt wr lo g aR aS d cR cS w a s) ∧ Hid (Below lo W wr)) (fun wr => J - memNat wr g 2)
  case atStart => exact ⟨ab, hab, HF, Lib.hid ⟨rfl, rfl, rfl, Nat.le_refl _, fun _ _ => rfl⟩⟩
  case round =>
    clear HF hab
    obtain ⟨a, ha, HF, HB⟩ := hrel
    obtain ⟨c0, c1, c2, c3⟩ := HF.out.blk.four
    have f2 := HF.out.blk.frozen 2
    obtain ⟨r0, -, -, -⟩ := HF.out.rest.get (i := a) (by omega)
    obtain ⟨x, hx⟩ : ∃ x, x = gt s.rest a := ⟨_, rfl⟩
    rw [← hx] at r0
    have had : a < d := by omega
    have HNA := Lib.hid (memNat_of c2)
    by_cases haJ : a < J
    · have d1 : x ≤ w := by have := HJ.out.fst a haJ; omega
      have d2 : (x : Int) ≤ (w : Int) := by omega
      have HF2 := Lib.hid (show FilAt (wr.setCell ⟨g, 2, none⟩ (.int .i64 ((a : Int) + 1))).drew lo g aR aS d cR cS w (a + 1) s from (HF.out.setAb (a + 1)).past (Below.refl _ _).drew)
      have HB2 := Lib.hid (show Below lo W (wr.setCell ⟨g, 2, none⟩ (.int .i64 ((a : Int) + 1))).drew from (HB.out.setCell (p := ⟨g, 2, none⟩) hlg _).drew)
      clear hx
      go_wp2
      go_region
      all_goals
        go_wp2
        go_roundw
        case rel => exact ⟨a + 1, by omega, HF2, HB2⟩
        case measure =>
          have := HNA.out
          have := memNat_of HF2.out.blk.four.2.2.1
          omega
    · have e : a = J := by omega
      subst e
      have d1 : ¬ x ≤ w := by have := HJ.out.at_; omega
      have d2 : ¬ (x : Int) ≤ (w : Int) := by omega
      have HX := Lib.hid hx
      clear hx haJ ha
      go_wp2
      go_region
      have HF1 := Lib.hid (HF.out.past (W' := wr.drew) (Below.refl _ _).drew)
      have HB1 := Lib.hid (HB.out.drew)
      obtain ⟨W1, hW1⟩ : ∃ X : World, X = wr.drew := ⟨_, rfl⟩
      rw [← hW1] at HF1 HB1
      rw [← hW1]
      clear hW1 c0 c1 c2 c3 f2 r0 HF HB HNA
      obtain ⟨c0, c1, c2, c3⟩ := HF1.out.blk.four
      obtain ⟨y, hy⟩ : ∃ y, y = gt s.rest i := ⟨_, rfl⟩
      have hyw : y < w := by rw [hy]; exact HP.out
      obtain ⟨r0, -, -, -⟩ := HF1.out.rest.get hi
      rw [← hy] at r0
      obtain ⟨q, -, t0, t1, t2, t3, -, -⟩ := HF1.out.tab.get hi
      have HF2 := Lib.hid ((HF1.out.setTab hi ⟨y, a⟩).past (Below.refl _ _).drew)
      have HB2 := Lib.hid ((HB1.out.setCell (p := aS.add (i * 2)) (by rw [block_add]; exact HLO.out.2.1) (.int .u64 (y : Int))).setCell (p := fld (aS.add (i * 2))) (by show lo ≤ (aS.add (i * 2)).block; rw [block_add]; exact HLO.out.2.1) (.int .u32 (a : Int))).drew
      have t4 : (W1.setCell (aS.add (i * 2)) (.int .u64 (y : Int))).cell? ⟨(aS.add (i * 2)).block, (aS.add (i * 2)).off + 1, none⟩ = some (.int .u32 (q.oth : Int)) := by
        rw [World.cell?_setCell_other _ _ _ _ (fun e => by have := congrArg Addr.off e; simp at this)]
        exact t1
      have HY := Lib.hid hy
      clear hy
      go_wp2
      go_region
      obtain ⟨W2, hW2⟩ : ∃ X : World, X = ((W1.setCell (aS.add (i * 2)) (.int .u64 (y : Int))).setCell (fld (aS.add (i * 2))) (.int .u32 (a : Int))).drew := ⟨_, rfl⟩
      rw [← hW2] at HF2 HB2
      rw [← hW2]
      clear hW2 c0 c1 c2 c3 r0 t0 t1 t2 t3 t4 HF1 HB1
      obtain ⟨c0, c1, c2, c3⟩ := HF2.out.blk.four
      obtain ⟨r0, -, -, -⟩ := HF2.out.rest.get (i := i) hi
      obtain ⟨r1, f1, -, -⟩ := HF2.out.rest.get (i := a) had
      dsimp only at r0 r1
      rw [← HY.out] at r0
      rw [← HX.out] at r1
      have hxm : x < 9223372036854775808 := by rw [HX.out]; exact HMX.out a
      obtain ⟨k, hk⟩ : ∃ k, k = w - y := ⟨_, rfl⟩
      obtain ⟨z, hz⟩ : ∃ z, z = x - k := ⟨_, rfl⟩
      have e1 : (w : Int) - (y : Int) = (k : Int) := by omega
      have e2 : (x : Int) - (k : Int) = (z : Int) := by omega
      have hk2 : k < 9223372036854775808 := by omega
      have hz2 : z < 9223372036854775808 := by omega
      have HKZ := Lib.hid (show z = x - (w - y) by rw [hz, hk])
      have HF3 := Lib.hid ((HF2.out.setRest had z).past (Below.refl _ _).drew)
      have HB3 := Lib.hid ((HB2.out.setCell (p := aR.add a) (by rw [block_add]; exact HLO.out.1) (.int .u64 (z : Int))).drew)
      clear hk hz
      go_wp2
      go_region
      obtain ⟨W3, hW3⟩ : ∃ X : World, X = (W2.setCell (aR.add a) (.int .u64 (z : Int))).drew := ⟨_, rfl⟩
      rw [← hW3] at HF3 HB3
      rw [← hW3]
      clear hW3 c0 c1 c2 c3 r0 r1 f1 HF2 HB2
      obtain ⟨c0, c1, c2, c3⟩ := HF3.out.blk.four
      obtain ⟨r0, f0, -, -⟩ := HF3.out.rest.get (i := i) hi
      have FIN := Lib.hid (show FilAt (W3.setCell (aR.add i) (.int .u64 (w : Int))).drew lo g aR aS d cR cS w a (upd w s i a) ∧ Below lo W (W3.setCell (aR.add i) (.int .u64 (w : Int))).drew from by
        refine ⟨?_, (HB3.out.setCell (p := aR.add i) (by rw [block_add]; exact HLO.out.1) _).drew⟩
        have h1 := (HF3.out.setRest hi w).past (Below.refl _ _).drew
        rw [HKZ.out, HX.out, HY.out] at h1
        exact h1)
      go_wp2
      go_region
      go_wp2
      go_ret
      exact ⟨rfl, FIN.out.1, FIN.out.2⟩
end Go.Proofs.Ytoflbfkmkalgcaa
