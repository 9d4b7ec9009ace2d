/- Texts put together, for a law: SfO. -/
import Derived.Test.YteaibgnelnblnaaKQ15
import Derived.Test.YteaibgnelnblnaaKQ22
import Derived.Test.YteaibgnelnblnaaKQ1
section
namespace Go.Proofs.Yteaibgnelnblnaa
open Go.RowKit Me Rn Go.Sort
variable {w w' : World}

theorem PcOff.out {g : Option Nat} {p : Pc} (h : PcOff w g p) (ho : Out (fun k => g = some k) w w') : PcOff w' g p := by
  obtain ⟨a, n, c, h1, h2, h3, h4, h5, h6, h7⟩ := h
  exact ⟨a, n, c, h1, h2, h3, h4, Nat.lt_of_lt_of_le h5 ho.size, fun i u hu => (ho.cell (by rw [block_add]; exact h5) (by rw [block_add]; exact h7)).trans (h6 i u hu), h7⟩
theorem sortoff_any (es : List Pc) (base n c : Nat) (A : Option Addr) (hn : n < 4611686018427387904) (hown : w.ownsRow base 62 1 (.slice A n c) n (es.map Prod.fst)) (he : ∀ p ∈ es, PcOff w (Value.slice A n c).ownBlock p) :
    Calls Try.prog 29 #[.slice A n c, .func (.func 30) #[] #[]] w fun e w' => e = .returned (.tuple #[]) ∧
      ∃ es' : List Pc, es'.Perm es ∧ Rises (es'.map Prod.snd) ∧ w'.ownsRow base 62 1 (.slice A n c) n (es'.map Prod.fst) ∧ Out (fun k => (Value.slice A n c).ownBlock = some k) w w' := by
  have hl : es.length = n := by have := hown.1; rw [List.length_map, Nat.mul_one] at this; exact this
  by_cases h0 : n = 0
  · subst h0
    have hnil : es = [] := List.length_eq_zero_iff.1 hl
    subst hnil
    have hS := AnyF.slices_SortFunc_none (P := Try.prog) (ρ := Try.shSortF_ren) { Try.shSortF with } A c (.func (.func 30) #[] #[]) w
    change Calls Try.prog 29 _ _ _ at hS
    refine hS.mono ?_
    rintro e w1 ⟨rfl, rfl⟩
    exact ⟨rfl, [], List.Perm.refl _, List.Pairwise.nil, hown, .refl _ _⟩
  · have hpos : 0 < es.length := by omega
    obtain ⟨g, hA, hgb, -, -, -⟩ := own_put (v := undef) hown (i := 0) (by omega)
    subst hA
    have hgl := (hown.lt g rfl).2
    let enc : Fin es.length → Value := fun i => es[i].1
    let rc : Fin es.length → List UInt8 := fun i => es[i].2
    haveI : Inhabited (Fin es.length) := ⟨⟨0, hpos⟩⟩
    let d : Array (Fin es.length) := (List.finRange es.length).toArray
    have hd : d.size = n := by simp [d, hl]
    have hdg : ∀ j (hj : j < es.length), d[j]! = ⟨j, hj⟩ := fun j hj => by
      rw [getElem!_pos d j (by rw [hd]; omega)]
      simp [d]
    have hH : Holds enc w g 0 d := fun j hj => by
      have hj' : j < es.length := by omega
      obtain ⟨g', hg', -, hc, hf, -⟩ := own_put (v := undef) hown (i := j) (by omega)
      have hgg : g' = g := by injection hg' with hg'; injection hg' with hg'; exact hg'.symm
      subst hgg
      rw [Nat.zero_add, hdg j hj']
      refine ⟨hc.trans ?_, hf⟩
      rw [List.getElem?_map, List.getElem?_eq_getElem hj']
      rfl
    have hSW : ∀ (m : Nat) (os : Array Obj) (dk : Array (Fin es.length)), dk.size = d.size → sortWorld enc w g 0 m dk os = grow ((w.drewN m).setCells g 0 (dk.toList.map enc)) os := fun m os dk hs => by
      have := Lib.sorted_world enc w g 0 m d dk.toList os hH (by simpa using hs)
      simpa [sortWorld] using this
    have hOut : ∀ (m : Nat) (os : Array Obj) (dk : Array (Fin es.length)), dk.size = d.size → Out (fun k => (Value.slice (some ⟨g, 0, none⟩) n c).ownBlock = some k) w (sortWorld enc w g 0 m dk os) := fun m os dk hs => by
      rw [hSW m os dk hs]
      exact out_grow (Out.setCells g _ 0 (out_drewN (fun k => (Value.slice (some ⟨g, 0, none⟩) n c).ownBlock = some k) w m) (.inl rfl)) os
    have hcmp : CmpLays1 Try.prog 30 #[] enc (fun x y => cmpB (rc x) (rc y)) g 0 d.size w := fun m os dk hs x y => by
      have ho := hOut m os dk hs
      obtain ⟨A1, n1, c1, e1, l1, -, -, r1⟩ := ((he _ (List.getElem_mem x.isLt)).out ho).at
      obtain ⟨A2, n2, c2, e2, l2, -, -, r2⟩ := ((he _ (List.getElem_mem y.isLt)).out ho).at
      show Calls Try.prog 30 #[es[x].1, es[y].1] _ _
      rw [show es[x].1 = .slice A1 n1 c1 from e1, show es[y].1 = .slice A2 n2 c2 from e2]
      refine (bcompare_any A1 A2 n1 c1 n2 c2 (rc x) (rc y) _ _ _ l1 r1 l2 r2).mono ?_
      rintro e w1 ⟨rfl, rfl⟩
      exact ⟨rfl, 0, #[], by rw [grow_empty]; rfl⟩
    have eg : ∀ args w, (callFunc 30 args).run Try.prog w = .ok (.enter 30 args) w := enters_of Try.func30 (by kernel_rfl) rfl
    have hone : OneCell enc := fun x => by
      obtain ⟨a1, n1, c1, e1, -⟩ := he _ (List.getElem_mem x.isLt)
      show (es[x].1).oneCell' = true
      rw [show es[x].1 = .slice (some a1) n1 c1 from e1]
      rfl
    have hcon := Any.slices_SortFunc Try.shSortF enc hone (fun x y => cmpB (rc x) (rc y)) (swoB rc) 30 #[] g 0 c d w eg hcmp hH hgl (by omega)
    change Calls Try.prog 29 _ _ _ at hcon
    rw [hd] at hcon
    refine hcon.mono ?_
    rintro e w1 ⟨rfl, d', q, os, hp, hs, rfl⟩
    have hds : d'.size = d.size := hp.1
    have hfin : (List.finRange es.length).map (fun i => es[i]) = es := by
      refine List.ext_getElem (by simp) fun i h1 h2 => ?_
      simp
    have hperm : d'.toList.Perm (List.finRange es.length) := by
      have h1 := hp.2.2
      rw [show d'.extract 0 n = d' by rw [← hd, ← hds]; simp, show d.extract 0 n = d by rw [← hd]; simp] at h1
      exact h1
    refine ⟨rfl, d'.toList.map fun i => es[i], ?_, ?_, ?_, hOut q os d' hds⟩
    · have := hperm.map (fun i : Fin es.length => es[i])
      rw [hfin] at this
      exact this
    · rw [List.map_map]
      refine List.pairwise_iff_getElem.2 fun i j hi hj hij => ?_
      simp only [List.length_map, Array.length_toList] at hi hj
      have h1 := hs i j (Nat.zero_le _) hij (by omega)
      rw [getElem!_pos d' j hj, getElem!_pos d' i hi] at h1
      simp only [List.getElem_map, Array.getElem_toList, Function.comp]
      show Op.bytesLess (rc d'[j]) (rc d'[i]) = false
      cases hb : Op.bytesLess (rc d'[j]) (rc d'[i]) with
      | false => rfl
      | true =>
        have := cmpB_neg.2 hb
        unfold ltOf at h1
        simp [this] at h1
    · rw [hSW q os d' hds]
      have h1 := own_sets (d'.toList.map enc) 0 (own_out (S := fun _ => False) hown (out_drewN _ w q) (fun _ _ => id)) (by simp; omega)
      rw [setsL_all (by simp; omega)] at h1
      rw [List.map_map]
      exact own_grow h1 os
end Go.Proofs.Yteaibgnelnblnaa
end
