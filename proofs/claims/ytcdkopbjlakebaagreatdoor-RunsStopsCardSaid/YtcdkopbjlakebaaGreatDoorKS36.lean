/- Texts put together, for a law: RuV. -/
import Derived.Test.YtcdkopbjlakebaaGreatDoorTie
import Derived.Test.YtcdkopbjlakebaaGreatDoorCards
import Derived.ProofKit
import Derived.OpenShut
import Derived.LaidMore
import Derived.Lay
import Derived.SevenTiedAt
import Derived.Stop.Joined
import Derived.Stop.LaidErr
import Derived.Test.YtcdkopbjlakebaaGreatDoorKS31
section
namespace Go.Proofs.YtcdkopbjlakebaaGreatDoor
open Go.RowKit Me Tx Go.Shelf Go.Lib
abbrev laidL:List (String×DataW Unit):=[("math/bits.deBruijn32tab",Rows.laid_math_bits_deBruijn32tab),("math/bits.deBruijn64tab",Rows.laid_math_bits_deBruijn64tab),("internal/strconv.uint64pow10",Rows.laid_internal_strconv_uint64pow10)]
theorem pow_data:(Rows.laid_internal_strconv_uint64pow10:DataW Unit)=tabData .u64 pow10Tab:=by kernel_rfl
theorem laid_plain (W:World):laidMetH Tryz.prog laidL W=laidMet Tryz.prog laidL W:=MakeChecks.laidMetH_plain _ _ _ (by kernel_rfl)
theorem laid_tab {W:World} (h:laidMetH Tryz.prog laidL W):PTab W:=by
 rw[laid_plain] at h
 have h2:=h.tail.tail
 rw[pow_data] at h2
 exact tabIs_of_head (g:=1) (t:=279) (e:=106) (n:=20) ptab_global (by kernel_rfl) Tryz.underlying279 Tryz.underlying106 (by kernel_rfl) (by kernel_rfl) h2
theorem laid_world (os:Os) (args:Array Value):laidMetH Tryz.prog laidL ((World.laidAll Tryz.prog os laidL).forCall (fun _ _=>0) ⟨#[],args,[]⟩).memory:=by
 rw[laid_plain];exact laidMet_laidAll _ (by kernel_rfl) (by kernel_rfl)
theorem laid_shaped (os:Os):(World.laidAll Tryz.prog os laidL).Shaped Tryz.prog:=World.shaped_of_ZipB (by kernel_rfl) (by kernel_rfl)
end Go.Proofs.YtcdkopbjlakebaaGreatDoor
end
