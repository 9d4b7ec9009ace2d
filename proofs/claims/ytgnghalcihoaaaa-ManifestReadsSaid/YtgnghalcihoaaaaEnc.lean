/- Numbers encoded one behind the other. -/
import Derived.Test.YtgnghalcihoaaaaMan
import Derived.Test.YtgnghalcihoaaaaNum
namespace Go.Proofs.Ytgnghalcihoaaaa
open Go.RowKit Me Mf Va

/-- The cells of numbers of 64 bits. -/
def ucells (l : List Nat) : List Value := l.map fun x : Nat => Value.int .u64 (x : Int)
theorem ucells_length (l : List Nat) : (ucells l).length = l.length := by simp [ucells]
set_option maxRecDepth 100000 in
set_option maxHeartbeats 400000 in
theorem encoded_any (A : Option Addr) (n c : Nat) (ns : List Nat) (w : World) (B : Nat) (hl : ns.length = n) (hn : n ≤ 1000) (h64 : ∀ x ∈ ns, x < 18446744073709551616) (hr : Cs w B A (ucells ns)) (hB : B ≤ w.heap.size) :
    Calls Try.prog 84 #[.slice A n c] w (News w (encNs ns)) := by
  have HL := Lib.hid hl
  have H64 := Lib.hid h64
  have HR := Lib.hid (hr.more hB)
  clear hl h64 hr
  go_enter Try.func84, Try.ntmps84
  go_wp2
  go_loopw [3, 8] (fun v i wr => ∃ k t : Nat, k ≤ n ∧ i = .int .i64 (k : Int) ∧ t ≤ 10000 ∧ Hid (t = (encNs (ns.take k)).length) ∧ Hid (wr.ownsRow w.heap.size 5 1 v t (cellsOf (encNs (ns.take k)))) ∧ Hid (Below w.heap.size w wr)) (fun _ i _ => n - (intOf i).toNat)
  case atStart => exact ⟨0, 0, Nat.zero_le _, rfl, by omega, Lib.hid rfl, Lib.hid (World.ownsRow_nil _ _ _ _), Lib.hid (Below.refl _ _)⟩
  case round =>
    obtain ⟨k, t, hk, rfl, ht, HT, HO, HB⟩ := hrel
    by_cases hlt : k < n
    · obtain ⟨x, hx⟩ : ∃ x, ns[k]? = some x := ⟨_, List.getElem?_eq_getElem (by rw [HL.out]; exact hlt)⟩
      obtain ⟨a, rfl, hab, hc⟩ := (HR.out.below HB.out) (by rw [ucells_length, HL.out]; omega)
      have hcx := hc k (.int .u64 (x : Int)) (by simp [ucells, hx])
      have hx64 := H64.out x (List.mem_of_getElem? hx)
      have HX := Lib.hid hx
      clear hc hx
      have HTX := Lib.hid (show (encNs (ns.take (k + 1))).length ≤ 10000 from by
        have := encNs_ten (ns.take (k + 1)) (fun y hy => H64.out y (List.mem_of_mem_take hy))
        rw [List.length_take] at this
        omega)
      obtain ⟨V, cv, rfl⟩ := own_slice HO.out
      have HRD := Lib.hid (Rd.of_own HO.out)
      go_wp2_with fail
      refine (put_any V t cv x _ wr HT.out.symm (by omega) HRD.out hx64).mono ?_
      rintro e w1 ⟨v1, t1, rfl, ho1, hb1⟩
      have hlen1 := ho1.1
      rw [cellsOf_length, Nat.mul_one] at hlen1
      have HB1 := Lib.hid (HB.out.trans (hb1.mono HB.out.size))
      have HE := Lib.hid (encNs_take HX.out)
      have HO1 := Lib.hid (own_more ho1 HB.out.size)
      rw [← HE.out] at HO1 hlen1
      have ht1 : t1 ≤ 10000 := by have := HTX.out; omega
      have HT1 := Lib.hid hlen1.symm
      clear ho1 hb1 hlen1
      go_wp2
      go_roundw
      case rel => exact ⟨k + 1, t1, by omega, by go_num, ht1, HT1, HO1, HB1⟩
      case measure => simp [intOf]; omega
    · have hkn : k = n := by omega
      subst hkn
      have e : ns.take k = ns := by rw [← HL.out, List.take_length]
      have HO' := HO
      rw [e] at HO'
      clear HO HT
      go_wp2
      go_ret
      exact ⟨_, _, rfl, HO'.out, HB.out⟩
theorem own_not_box {w : World} {base size n b : Nat} {e t : TypeId} {v : Value} {xs : List Value} {cs : Array Value} (h : w.ownsRow base e size v n xs) (hb : w.heap[b]? = some (.cells cs t)) (hne : e ≠ t) : v.ownBlock ≠ some b := by
  rcases h.2 with ⟨rfl, -⟩ | ⟨g, cap, cur, rfl, -, hg, -⟩
  · simp [Value.ownBlock]
  · intro e'
    simp [Value.ownBlock] at e'
    subst e'
    rw [hg] at hb
    injection hb with hb
    injection hb with _ hb
    exact hne hb
end Go.Proofs.Ytgnghalcihoaaaa
