/- Small laws on what is sealed. -/
import Derived.Test.YtmcemhkhgccojaaY8D
namespace Go.Proofs.Ytmcemhkhgccojaa
open Go.RowKit
theorem sealL_right {l : LsaZ} (h : rightLsaB l = true) : sealL l = withHead l (sealH l) := by unfold sealL; rw [if_pos h]
theorem mid_head {l : LsaZ} (h : Mid l) (z : HeadZ) : Mid (withHead l z) := ⟨h.hl, h.hr, h.hv⟩
theorem held_head {w : World} {s : Seats} {l : LsaZ} (h : Held w s l) (z : HeadZ) : Held w s (withHead l z) := ⟨h.hl, h.hr, h.hv⟩
end Go.Proofs.Ytmcemhkhgccojaa
