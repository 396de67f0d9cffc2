/- Two closed facts joined. -/
import GoSem.Claim
namespace Go.Proofs.YtfmmholkeadejaaGreatDoor
theorem band {a b : Bool} (ha : a = true) (hb : b = true) : (a && b) = true := by rw [ha, hb]; rfl
end Go.Proofs.YtfmmholkeadejaaGreatDoor
