/- What package gossip's New tells, in plain words. -/
import Derived.Test.YthmnjebmnocoiaaGreatYGsPlan
namespace Go.Proofs.YthmnjebmnocoiaaGreat
open Go.RowKit

def noR : Rg := ([], noOs)
def newOs (os : List Ow) (n : Int) (k : Nat) : List Ow := (List.range 8).map fun j => if j < k then (n, 1) else os.getD j noO
theorem newOs_len (os : List Ow) (n : Int) (k : Nat) : (newOs os n k).length = 8 := by simp [newOs]
theorem newOs_zero (os : List Ow) (n : Int) (h : os.length = 8) : newOs os n 0 = os := by
  apply List.ext_getElem
  · simp [newOs, h]
  · intro i h1 h2
    simp [newOs, h2]
theorem newOs_succ (os : List Ow) (n : Int) (k : Nat) : newOs os n (k + 1) = (newOs os n k).set k (n, 1) := by
  apply List.ext_getElem
  · simp [newOs]
  · intro i h1 h2
    rw [List.getElem_set]
    simp only [newOs, List.getElem_map, List.getElem_range]
    by_cases e : k = i
    · subst e; rw [if_pos rfl, if_pos (by omega)]
    · rw [if_neg e]
      by_cases g : i < k
      · rw [if_pos g, if_pos (by omega)]
      · rw [if_neg g, if_neg (by omega)]
def newL (n : Int) : Rg := if isN n then ((turnL noR 1 [n]).1, newOs (turnL noR 1 [n]).2 n 8) else noR
theorem noR_fit : RFit noR := ⟨fun m hm => (by cases hm), fun j hj => by
  show (noOs.getD j noO).2 < _
  rw [noOs_at j hj]; decide⟩
theorem noR_at (B : Nat) (w : World) : RingAt B w (.slice none 0 0) noR := ⟨mems_nil B w, rfl⟩
end Go.Proofs.YthmnjebmnocoiaaGreat
