/- Texts put together, for a law: RuV. -/
import Derived.Test.YtcdkopbjlakebaaGreatDoorTie
import Derived.Test.YtcdkopbjlakebaaGreatDoorCards
import Derived.ProofKit
import Derived.OpenShut
import Derived.LaidMore
import Derived.Lay
import Derived.SevenTiedAt
import Derived.Stop.Joined
import Derived.Stop.LaidErr
import Derived.Test.YtcdkopbjlakebaaGreatDoorKP30
set_option maxRecDepth 100000
set_option maxHeartbeats 8000000
namespace Go.Proofs.YtcdkopbjlakebaaGreatDoor
section
open Go.RowKit Me Tx Go.Shelf Go.Lib
abbrev Vz:List (String×DataW Unit):=[("math/bits.deBruijn32tab",Rows.laid_math_bits_deBruijn32tab),("math/bits.deBruijn64tab",Rows.laid_math_bits_deBruijn64tab),("internal/strconv.uint64pow10",Rows.laid_internal_strconv_uint64pow10)]
theorem zjI:(Rows.laid_internal_strconv_uint64pow10:DataW Unit)=tabData .u64 pow10Tab:=by kernel_rfl
theorem zaG (W:World):laidMetH Tryz.prog Vz W=laidMet Tryz.prog Vz W:=MakeChecks.laidMetH_plain _ _ _ (by kernel_rfl)
theorem zke {W:World} (h:laidMetH Tryz.prog Vz W):PTab W:=by
 rw[zaG] at h;have h2:=h.tail.tail;rw[zjI] at h2;exact tabIs_of_head (g:=1) (t:=279) (e:=106) (n:=20) ZE (by kernel_rfl) Tryz.underlying279 Tryz.underlying106 (by kernel_rfl) (by kernel_rfl) h2
theorem zgm (os:Os) (args:Array Value):laidMetH Tryz.prog Vz ((World.laidAll Tryz.prog os Vz).forCall (fun _ _=>0) ⟨#[],args,[]⟩).memory:=by
 rw[zaG];exact laidMet_laidAll _ (by kernel_rfl) (by kernel_rfl)
theorem zd8 (os:Os):(World.laidAll Tryz.prog os Vz).Shaped Tryz.prog:=World.shaped_of_ZipB (by kernel_rfl) (by kernel_rfl)
end
end Go.Proofs.YtcdkopbjlakebaaGreatDoor
