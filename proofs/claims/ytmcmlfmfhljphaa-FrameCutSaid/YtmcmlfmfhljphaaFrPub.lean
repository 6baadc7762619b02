/-
  The three calls of layer frame keep their contracts.
-/
import Derived.Test.YtmcmlfmfhljphaaFrAll
namespace Go.Proofs.Ytmcmlfmfhljphaa
open Go.RowKit

theorem getR_of : GetRC := by
  intro A n c l p r q k z hn hc hg hq hk w hr
  refine (getR_at A n c l p r q k z hn hc hg hq hk w _ hr).mono ?_
  rintro e w' ⟨X, d, Y, c', rfl, H1, H2, H3, H4, hb⟩
  exact ⟨X, d, Y, c', rfl, Lib.hid (H1.out.on hb), H2, Lib.hid (H3.out.on hb), H4, hb⟩
theorem frm : Frm := ⟨putR_of, getR_of, all_at getR_at⟩
end Go.Proofs.Ytmcmlfmfhljphaa
