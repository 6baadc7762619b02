/-
  The walk of num.Sane.
-/
import Derived.Test.YtjndehdihjlcaaaDoorProg
import Derived.Test.YtjndehdihjlcaaaDoorNumPlain
import Derived.WalkKit
import Derived.WalkSpells
import Derived.WalkLawsBesides
import Derived.BigCall
import Derived.Lib.Strings
import Derived.Lib.ItoaWalk
import Derived.Lib.Hide
namespace Go.Proofs.YtjndehdihjlcaaaDoor
open Go.RowKit

theorem sane_any (v : Int) (w : World) :
    Calls Tryd.prog 12 #[.int .i64 v] w fun e w' => e = .returned (.bool (Np.saneB v)) ∧ w = w' := by
  by_cases h1 : -9007199254740992 ≤ v
  · by_cases h2 : v ≤ 9007199254740992
    · have H : Hid (Np.saneB v = true) := Lib.hid ((Np.sane_iff v).mpr ⟨h1, h2⟩)
      go_enter Tryd.func12, Tryd.ntmps12
      go_wp2
      go_ret
      exact ⟨by rw [H.out]; rfl, rfl⟩
    · have H : Hid (Np.saneB v = false) := Lib.hid (by unfold Np.saneB; simp; omega)
      go_enter Tryd.func12, Tryd.ntmps12
      go_wp2
      go_ret
      exact ⟨by rw [H.out]; rfl, rfl⟩
  · have H : Hid (Np.saneB v = false) := Lib.hid (by unfold Np.saneB; simp; omega)
    go_enter Tryd.func12, Tryd.ntmps12
    go_wp2
    go_ret
    exact ⟨by rw [H.out]; rfl, rfl⟩
end Go.Proofs.YtjndehdihjlcaaaDoor
