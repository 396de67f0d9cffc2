/- The sums that the statements' own look ('awake') meets, reckoned by the kernel. -/
import Derived.Test.YtbfadapffpijpaaDoorTrLevel
import Derived.Test.YtbfadapffpijpaaDoorTrDiff
namespace Go.Proofs.YtbfadapffpijpaaDoor

def s7 : List UInt8 := 7 :: List.replicate 31 0
def hA : List UInt8 := [219, 209, 204, 98, 73, 174, 222, 93, 167, 153, 97, 49, 34, 99, 8, 210, 138, 65, 188, 125, 197, 117, 149, 82, 61, 79, 111, 60, 24, 240, 151, 45]
def sE : List UInt8 := [7, 106, 39, 199, 158, 90, 206, 42, 61, 71, 249, 221, 46, 131, 228, 255, 110, 168, 135, 43, 60, 34, 24, 246, 108, 146, 184, 155, 85, 243, 101, 96]
def sF : List UInt8 := [79, 77, 27, 13, 131, 192, 147, 202, 196, 191, 195, 134, 139, 204, 180, 138, 253, 169, 192, 113, 254, 172, 115, 134, 98, 237, 187, 9, 242, 124, 172, 172]
def r0 : List UInt8 := [171, 96, 132, 138, 109, 193, 213, 163, 125, 249, 99, 40, 235, 238, 172, 137, 170, 107, 69, 25, 26, 193, 238, 214, 171, 200, 20, 78, 119, 217, 172, 94]
def r1 : List UInt8 := [16, 167, 144, 140, 217, 228, 68, 6, 164, 86, 81, 255, 226, 85, 14, 137, 228, 215, 81, 119, 163, 60, 246, 126, 61, 188, 29, 41, 27, 131, 107, 93]
theorem leaf_a : leafOf [97] = 202 := by decide +kernel
theorem sum_hA : shaL (1 :: 97 :: s7) = hA := by decide +kernel
theorem sum_E : shaL ((List.replicate 16 zero32).flatten) = sE := by decide +kernel
theorem sum_F : shaL (((List.replicate 16 zero32).set 10 hA).flatten) = sF := by decide +kernel
theorem sum_r0 : shaL ((List.replicate 16 sE).flatten) = r0 := by decide +kernel
theorem sum_r1 : shaL (((List.replicate 16 sE).set 12 sF).flatten) = r1 := by decide +kernel
theorem r_ne : ¬ r1 = r0 := by decide
set_option maxRecDepth 100000 in
theorem cut16 (x : List UInt8) : (List.range 16).map (fun j => (((List.replicate 256 zero32).set 202 x).drop (16 * j)).take 16) = (List.replicate 16 (List.replicate 16 zero32)).set 12 ((List.replicate 16 zero32).set 10 x) := by kernel_rfl
theorem brs (x : List UInt8) : (List.range 16).map (brH ((List.replicate 256 zero32).set 202 x)) = (List.replicate 16 sE).set 12 (shaL ((List.replicate 16 zero32).set 10 x).flatten) := by
  have h := congrArg (List.map fun l : List (List UInt8) => shaL l.flatten) (cut16 x)
  rw [List.map_map, List.map_set, List.map_replicate, sum_E] at h
  exact h
def p7 : List UInt8 × Fl := ([97], ⟨s7, 0⟩)
def tA : Tr := putT (reckT newT) [97] s7
theorem rep_set {α : Type} (n i : Nat) (x : α) : (List.replicate n x).set i x = List.replicate n x := by
  apply List.ext_getElem?
  intro j
  rw [List.getElem?_set, List.getElem?_replicate, List.length_replicate]
  by_cases h : i = j
  · subst h
    rw [if_pos rfl]
  · rw [if_neg h]
theorem newT_allH : allH newT = List.replicate 256 zero32 := by
  unfold allH newT
  rw [List.map_replicate]; rfl
theorem newT_allB : allB newT = List.replicate 16 sE := by
  have h := brs zero32
  rw [rep_set, rep_set, sum_E, rep_set] at h
  unfold allB
  rw [newT_allH]
  exact h
theorem tA_eq : tA = setT (reckT newT) 202 [p7] := by
  have e : leafAt (reckT newT) 202 = [] := getD_rep _ _ _ _ (by omega)
  unfold tA putT
  rw [leaf_a, e]
  rfl
theorem tA_lv : tA.lv = (List.replicate 256 []).set 202 [p7] := by rw [tA_eq]; rfl
theorem leafH_a : leafH [p7] = hA := by
  unfold leafH
  rw [if_neg (by decide)]
  show shaL (leafB [p7]) = hA
  have : leafB [p7] = 1 :: 97 :: s7 := by
    show rowB p7 ++ [] = _
    unfold rowB
    rw [Pk.numL_small (by decide)]; rfl
  rw [this, sum_hA]
theorem tA_allH : allH tA = (List.replicate 256 zero32).set 202 hA := by
  unfold allH
  rw [tA_lv, List.map_set, List.map_replicate, leafH_a]; rfl
theorem tA_allB : allB tA = (List.replicate 16 sE).set 12 sF := by
  have h := brs hA
  rw [sum_F] at h
  unfold allB
  rw [tA_allH]
  exact h
theorem tA_root : rootH tA = r1 := by unfold rootH; rw [tA_allB, sum_r1]
theorem newT_root : rootH newT = r0 := by unfold rootH; rw [newT_allB, sum_r0]
theorem reck_root (T : Tr) : rootH (reckT T) = rootH T := rfl
theorem reck_level (T : Tr) (l : List Int) : levelT (reckT T) l = levelT T l := rfl
theorem reck_reck (T : Tr) : reckT (reckT T) = reckT T := rfl
theorem level_none (T : Tr) : levelT T [] = allB T := by unfold levelT; simp
theorem diff_top : diffL (levelT tA []) (levelT newT []) = [12] := by
  rw [level_none, level_none, tA_allB, newT_allB]
  decide +kernel
theorem diff_low : diffL (levelT tA [12]) (levelT newT [12]) = [10] := by
  have e1 : levelT tA [12] = (((List.replicate 256 zero32).set 202 hA).drop 192).take 16 := by
    unfold levelT
    rw [List.flatMap_cons, List.flatMap_nil, List.append_nil]
    show [] ++ partT tA 12 = _
    unfold partT
    rw [tA_allH]; rfl
  have e2 : levelT newT [12] = ((List.replicate 256 zero32).drop 192).take 16 := by
    unfold levelT
    rw [List.flatMap_cons, List.flatMap_nil, List.append_nil]
    show [] ++ partT newT 12 = _
    unfold partT
    rw [newT_allH]; rfl
  rw [e1, e2]
  decide +kernel
theorem tA_dirty : dirtyT tA = 1 := by
  have e : tA.dirty = (List.replicate 256 false).set 202 true := by rw [tA_eq]; rfl
  unfold dirtyT
  rw [e]
  decide +kernel
theorem reck_dirty (T : Tr) : dirtyT (reckT T) = 0 := by
  unfold dirtyT
  show ((List.replicate 256 false).filter id).length = 0
  decide +kernel
theorem tA_len : lenT tA = 1 := by
  unfold lenT
  rw [tA_lv, List.map_set, List.map_replicate]
  decide +kernel
theorem tA_leaf : leafAt tA 202 = [p7] := by
  unfold leafAt
  rw [tA_lv, getD_set _ _ _ _ _ (by rw [List.length_replicate]; omega), if_pos rfl]
theorem reck_leaf (T : Tr) (i : Nat) : leafAt (reckT T) i = leafAt T i := rfl
theorem tA_again : putT (reckT tA) [97] s7 = reckT tA := by
  have e : leafAt (reckT tA) 202 = [p7] := (reck_leaf tA 202).trans tA_leaf
  have g : get [p7] [97] = some ⟨s7, 0⟩ := if_pos rfl
  unfold putT
  rw [leaf_a, e, g, Option.map_some, if_pos (Eq.refl (some s7))]
theorem s7_len : s7.length = 32 := rfl
theorem tA_ok : tA.Ok := putT_ok (reckT_ok newT_ok) _ _ s7_len
theorem tA_fit : Fit tA 536870912 := (fit_put (reckT_ok newT_ok) (fit_reck (newT_fit 0)) [97] s7).mono (by decide)
end Go.Proofs.YtbfadapffpijpaaDoor
