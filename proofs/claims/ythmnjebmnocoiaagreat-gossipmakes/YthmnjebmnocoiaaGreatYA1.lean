/- GsPure, GsCmp, GsNew, GsMap, GsVals, GsColl, GsSortP. -/
import Derived.Test.YthmnjebmnocoiaaGreatProg
import Derived.BigQuiet
import Derived.Deep.QuietTactic
import Derived.Sort.KeysCollected
import Derived.Maps.RangeWalk
import Derived.Maps.OwnSet
import Derived.RangeFuncNested
import Derived.RangeFuncBound
import Derived.RangeFuncCalls
import Derived.RangeFuncLeaves
import Derived.RangeFuncBox
import Derived.Shelf.Abstract
import Derived.Shelf.RegionOpen
import Derived.Sort.MapsRangeIn
import Derived.WalkKit
import Derived.OwnWalkIn
import Derived.TacticsInMore
import Derived.LoopNIn
import Derived.LoopIn
import Derived.Maps.AppendAt
import Derived.Shelf.SlSortCmp.InsertionK
import Derived.Test.YthmnjebmnocoiaaGreatYLaws
/- What package gossip says, in plain words: members, owners, rings. -/
namespace Go.Proofs.YthmnjebmnocoiaaGreat

abbrev Mb := Int × Int × Nat
abbrev Ow := Int × Nat
abbrev Rg := List Mb × List Ow
abbrev Kn := Int → Mb
abbrev noM : Mb := (0, 0, 0)
def isN (n : Int) : Bool := decide (1 ≤ n) && decide (n ≤ 7)
theorem isN_iff (n : Int) : isN n = true ↔ 1 ≤ n ∧ n ≤ 7 := by simp [isN]
def okM (m : Mb) : Bool := isN m.1 && (decide (1 ≤ m.2.1) && decide (m.2.1 ≤ 3))
theorem okM_iff (m : Mb) : okM m = true ↔ (1 ≤ m.1 ∧ m.1 ≤ 7) ∧ 1 ≤ m.2.1 ∧ m.2.1 ≤ 3 := by simp [okM, isN]
def newM (m o : Mb) : Bool := decide (o.2.2 < m.2.2) || (decide (o.2.2 = m.2.2) && decide (o.2.1 < m.2.1))
theorem newM_iff (m o : Mb) : newM m o = true ↔ o.2.2 < m.2.2 ∨ o.2.2 = m.2.2 ∧ o.2.1 < m.2.1 := by simp [newM]
def joM (a b : Mb) : Mb := if newM b a then b else a
def upd (k : Kn) (m : Mb) : Kn := fun n => if n = m.1 then m else k n
def hear1 (k : Kn) (m : Mb) : Kn := if okM m && newM m (k m.1) then upd k m else k
def hearL (k : Kn) (l : List Mb) : Kn := l.foldl hear1 k
def noK : Kn := fun _ => noM
def bestL (l : List Mb) : Kn := hearL noK l
def seven : List Int := [1, 2, 3, 4, 5, 6, 7]
def risL (k : Kn) : List Mb := (seven.map k).filter fun m => decide (m.2.1 ≠ 0)
def Sl (n : Int) (m : Mb) : Prop := m = noM ∨ (okM m = true ∧ m.1 = n)
def Right (k : Kn) : Prop := ∀ n, Sl n (k n)
theorem noK_right : Right noK := fun _ => Or.inl rfl

theorem Sl.jo {n : Int} {a b : Mb} (ha : Sl n a) (hb : Sl n b) : Sl n (joM a b) := by
  unfold joM; split
  · exact hb
  · exact ha
theorem mb_ext {a b : Mb} (h1 : a.1 = b.1) (h2 : a.2.1 = b.2.1) (h3 : a.2.2 = b.2.2) : a = b := Prod.ext h1 (Prod.ext h2 h3)
theorem Sl.same {n : Int} {a b : Mb} (ha : Sl n a) (hb : Sl n b) (h2 : a.2.1 = b.2.1) (h3 : a.2.2 = b.2.2) : a = b := by
  rcases ha with rfl | ⟨ha, ea⟩
  · rcases hb with rfl | ⟨hb, eb⟩
    · rfl
    · rw [okM_iff] at hb; simp only at h2; omega
  · rcases hb with rfl | ⟨hb, eb⟩
    · rw [okM_iff] at ha; simp only at h2; omega
    · exact mb_ext (ea.trans eb.symm) h2 h3
theorem joM_cases (a b : Mb) : (joM a b = b ∧ (a.2.2 < b.2.2 ∨ a.2.2 = b.2.2 ∧ a.2.1 < b.2.1)) ∨ (joM a b = a ∧ ¬ (a.2.2 < b.2.2 ∨ a.2.2 = b.2.2 ∧ a.2.1 < b.2.1)) := by
  unfold joM
  by_cases h : newM b a = true
  · exact Or.inl ⟨if_pos h, (newM_iff b a).1 h⟩
  · exact Or.inr ⟨if_neg h, fun g => h ((newM_iff b a).2 g)⟩
theorem joM_comm {n : Int} {a b : Mb} (ha : Sl n a) (hb : Sl n b) : joM a b = joM b a := by
  rcases joM_cases a b with ⟨e, h⟩ | ⟨e, h⟩ <;> rcases joM_cases b a with ⟨e', h'⟩ | ⟨e', h'⟩ <;> rw [e, e']
  · omega
  · exact (ha.same hb (by omega) (by omega))
theorem joM_assoc (a b c : Mb) : joM (joM a b) c = joM a (joM b c) := by
  rcases joM_cases a b with ⟨e, h⟩ | ⟨e, h⟩ <;> rcases joM_cases b c with ⟨e', h'⟩ | ⟨e', h'⟩ <;> rw [e, e']
  · rcases joM_cases a c with ⟨g, h2⟩ | ⟨g, h2⟩ <;> rw [g]
    omega
  · rw [e]
  · rcases joM_cases a c with ⟨g, h2⟩ | ⟨g, h2⟩ <;> rw [e]
    · rw [g]; omega
    · exact g
theorem joM_idem (a : Mb) : joM a a = a := by unfold joM; split <;> rfl
theorem joM_no {n : Int} {a : Mb} (ha : Sl n a) : joM noM a = a := by
  rcases joM_cases noM a with ⟨e, h⟩ | ⟨e, h⟩ <;> rw [e]
  rcases ha with rfl | ⟨h1, _⟩
  · rfl
  · rw [okM_iff] at h1; simp only at h; omega
theorem joM_no' {n : Int} {a : Mb} (ha : Sl n a) : joM a noM = a := by rw [joM_comm ha (Or.inl rfl), joM_no ha]

theorem hear1_at {k : Kn} (m : Mb) (n : Int) : hear1 k m n = if okM m = true ∧ m.1 = n then joM (k n) m else k n := by
  unfold hear1 joM
  by_cases h1 : okM m = true
  · by_cases h2 : m.1 = n
    · subst h2
      by_cases h3 : newM m (k m.1) = true
      · simp [h1, h3, upd]
      · simp [h1, h3]
    · have h2' : ¬ n = m.1 := fun e => h2 e.symm
      by_cases h3 : newM m (k m.1) = true
      · simp [h1, h3, upd, h2, h2']
      · simp [h1, h3, h2]
  · simp [h1]
theorem hear1_right {k : Kn} (hk : Right k) (m : Mb) : Right (hear1 k m) := fun n => by
  rw [hear1_at]
  split
  · rename_i h; exact (hk n).jo (Or.inr h)
  · exact hk n
theorem hearL_right : ∀ (l : List Mb) {k : Kn}, Right k → Right (hearL k l)
  | [], _, hk => hk
  | m :: l, _, hk => hearL_right l (hear1_right hk m)
theorem bestL_right (l : List Mb) : Right (bestL l) := hearL_right l noK_right
theorem hearL_at : ∀ (l : List Mb) {k : Kn} (_ : Right k) (n : Int), hearL k l n = joM (k n) (bestL l n)
  | [], _, hk, n => (joM_no' (hk n)).symm
  | m :: l, k, hk, n => by
    show hearL (hear1 k m) l n = joM (k n) (hearL (hear1 noK m) l n)
    rw [hearL_at l (hear1_right hk m) n, hearL_at l (hear1_right noK_right m) n, hear1_at, hear1_at]
    by_cases h : okM m = true ∧ m.1 = n
    · rw [if_pos h, if_pos h]
      have hm : Sl n m := Or.inr h
      show _ = joM (k n) (joM (joM noM m) (bestL l n))
      rw [joM_no hm, joM_assoc]
    · rw [if_neg h, if_neg h]
      show _ = joM (k n) (joM noM (bestL l n))
      rw [joM_no (bestL_right l n)]
theorem bestL_append (l l' : List Mb) (n : Int) : bestL (l ++ l') n = joM (bestL l n) (bestL l' n) := by
  unfold bestL
  rw [show hearL noK (l ++ l') = hearL (hearL noK l) l' by simp [hearL], hearL_at l' (hearL_right l noK_right) n]; rfl
theorem Right.out {k : Kn} (h : Right k) {n : Int} (hn : ¬ (1 ≤ n ∧ n ≤ 7)) : k n = noM := by
  rcases h n with e | ⟨h1, h2⟩
  · exact e
  · rw [okM_iff] at h1; omega
theorem Right.seen {k : Kn} (h : Right k) {n : Int} (hn : (k n).2.1 ≠ 0) : okM (k n) = true ∧ (k n).1 = n := by
  rcases h n with e | h1
  · rw [e] at hn; exact absurd rfl hn
  · exact h1
theorem Right.unseen {k : Kn} (h : Right k) {n : Int} (hn : (k n).2.1 = 0) : k n = noM := by
  rcases h n with e | ⟨h1, _⟩
  · exact e
  · rw [okM_iff] at h1; omega
theorem best_filter (k : Kn) (hk : Right k) : ∀ (ns : List Int), ns.Nodup → ∀ n, bestL ((ns.map k).filter fun m => decide (m.2.1 ≠ 0)) n = if n ∈ ns then k n else noM
  | [], _, n => by simp [bestL, hearL, noK]
  | x :: ns, hd, n => by
    obtain ⟨h1, h2⟩ := List.nodup_cons.1 hd
    have ih := best_filter k hk ns h2 n
    by_cases hx : (k x).2.1 = 0
    · have e : ((x :: ns).map k).filter (fun m => decide (m.2.1 ≠ 0)) = (ns.map k).filter fun m => decide (m.2.1 ≠ 0) := by simp [hx]
      rw [e, ih]
      by_cases hn : n = x
      · subst hn; simp [h1, hk.unseen hx]
      · simp [hn]
    · have e : ((x :: ns).map k).filter (fun m => decide (m.2.1 ≠ 0)) = k x :: (ns.map k).filter fun m => decide (m.2.1 ≠ 0) := by simp [hx]
      rw [e]
      have e2 : bestL (k x :: (ns.map k).filter fun m => decide (m.2.1 ≠ 0)) n = joM (bestL [k x] n) (bestL ((ns.map k).filter fun m => decide (m.2.1 ≠ 0)) n) := bestL_append [k x] _ n
      rw [e2, ih]
      have e3 : bestL [k x] n = if n = x then k n else noM := by
        show hear1 noK (k x) n = _
        rw [hear1_at]
        obtain ⟨g1, g2⟩ := hk.seen hx
        by_cases hn : n = x
        · subst hn; rw [if_pos ⟨g1, g2⟩, if_pos rfl]; exact joM_no (hk n)
        · rw [if_neg (fun g => hn (g2 ▸ g.2).symm), if_neg hn]; rfl
      rw [e3]
      by_cases hn : n = x
      · subst hn
        simp [h1, joM_no' (hk n)]
      · simp only [hn, if_false, List.mem_cons, false_or]
        split
        · exact joM_no (hk n)
        · rfl
theorem seven_nodup : seven.Nodup := by decide
theorem mem_seven (n : Int) : n ∈ seven ↔ 1 ≤ n ∧ n ≤ 7 := by simp [seven]; omega
theorem best_ris (k : Kn) (hk : Right k) : bestL (risL k) = k := by
  funext n
  unfold risL
  rw [best_filter k hk seven seven_nodup n]
  split
  · rfl
  · rename_i h; rw [mem_seven] at h; exact (hk.out h).symm
theorem risL_congr {k k' : Kn} (h : ∀ n, k n = k' n) : risL k = risL k' := by rw [funext h]

/-! Owners. -/
abbrev noO : Ow := (0, 0)
def okO (o : Ow) : Ow := if isN o.1 then o else (0, o.2)
def newO (a b : Ow) : Bool := decide (b.2 < a.2) || (decide (b.2 = a.2) && decide (b.1 < a.1))
theorem newO_iff (m o : Ow) : newO m o = true ↔ o.2 < m.2 ∨ o.2 = m.2 ∧ o.1 < m.1 := by simp [newO]
def joO (a b : Ow) : Ow := if newO b a then b else a
def So (o : Ow) : Prop := 0 ≤ o.1 ∧ o.1 ≤ 7
theorem okO_so (o : Ow) : So (okO o) := by
  unfold okO So
  by_cases h : isN o.1 = true
  · rw [if_pos h]; rw [isN_iff] at h; omega
  · rw [if_neg h]; simp
theorem okO_id {o : Ow} (h : So o) : okO o = o := by
  unfold okO
  by_cases g : isN o.1 = true
  · rw [if_pos g]
  · rw [if_neg g]
    have : ¬ (1 ≤ o.1 ∧ o.1 ≤ 7) := fun e => g ((isN_iff _).2 e)
    obtain ⟨h1, h2⟩ := h
    exact Prod.ext (by show (0 : Int) = o.1; omega) rfl
theorem joO_cases (a b : Ow) : (joO a b = b ∧ (a.2 < b.2 ∨ a.2 = b.2 ∧ a.1 < b.1)) ∨ (joO a b = a ∧ ¬ (a.2 < b.2 ∨ a.2 = b.2 ∧ a.1 < b.1)) := by
  unfold joO
  by_cases h : newO b a = true
  · exact Or.inl ⟨if_pos h, (newO_iff b a).1 h⟩
  · exact Or.inr ⟨if_neg h, fun g => h ((newO_iff b a).2 g)⟩
theorem joO_comm (a b : Ow) : joO a b = joO b a := by
  rcases joO_cases a b with ⟨e, h⟩ | ⟨e, h⟩ <;> rcases joO_cases b a with ⟨e', h'⟩ | ⟨e', h'⟩ <;> rw [e, e']
  · omega
  · exact Prod.ext (by omega) (by omega)
theorem joO_assoc (a b c : Ow) : joO (joO a b) c = joO a (joO b c) := by
  rcases joO_cases a b with ⟨e, h⟩ | ⟨e, h⟩ <;> rcases joO_cases b c with ⟨e', h'⟩ | ⟨e', h'⟩ <;> rw [e, e']
  · rcases joO_cases a c with ⟨g, h2⟩ | ⟨g, h2⟩ <;> rw [g]
    omega
  · rw [e]
  · rcases joO_cases a c with ⟨g, h2⟩ | ⟨g, h2⟩ <;> rw [e]
    · rw [g]; omega
    · exact g
theorem joO_so {a b : Ow} (ha : So a) (hb : So b) : So (joO a b) := by
  unfold joO; split
  · exact hb
  · exact ha
theorem joO_no {a : Ow} (ha : So a) : joO noO a = a := by
  rcases joO_cases noO a with ⟨e, h⟩ | ⟨e, h⟩ <;> rw [e]
  obtain ⟨h1, h2⟩ := ha
  simp only at h
  exact Prod.ext (by show (0 : Int) = a.1; omega) (by show 0 = a.2; omega)
def noOs : List Ow := List.replicate 8 noO
def mixO (a b : List Ow) (k : Nat) : List Ow := (List.range 8).map fun j => if j < k then joO (a.getD j noO) (okO (b.getD j noO)) else a.getD j noO
def newestL (a b : List Ow) : List Ow := (List.range 8).map fun j => joO (a.getD j noO) (okO (b.getD j noO))
theorem mixO_len (a b : List Ow) (k : Nat) : (mixO a b k).length = 8 := by simp [mixO]
theorem newestL_len (a b : List Ow) : (newestL a b).length = 8 := by simp [newestL]
theorem mixO_zero (a b : List Ow) (h : a.length = 8) : mixO a b 0 = a := by
  apply List.ext_getElem
  · simp [mixO, h]
  · intro i h1 h2
    simp [mixO, h2]
theorem mixO_all (a b : List Ow) : mixO a b 8 = newestL a b := by
  unfold mixO newestL
  apply List.map_congr_left
  intro i hi
  rw [if_pos (by simpa using hi)]
theorem mixO_at (a b : List Ow) (k : Nat) (hk : k < 8) : (mixO a b k).getD k noO = a.getD k noO := by
  simp [mixO, List.getD_eq_getElem?_getD, hk]
theorem mixO_succ (a b : List Ow) (k : Nat) : mixO a b (k + 1) = (mixO a b k).set k (joO (a.getD k noO) (okO (b.getD k noO))) := by
  apply List.ext_getElem
  · simp [mixO]
  · intro i h1 h2
    rw [List.getElem_set]
    simp only [mixO, List.getElem_map, List.getElem_range]
    by_cases e : k = i
    · subst e; rw [if_pos rfl, if_pos (by omega)]
    · rw [if_neg e]
      by_cases g : i < k
      · rw [if_pos g, if_pos (by omega)]
      · rw [if_neg g, if_neg (by omega)]
theorem set_getD_id (l : List Ow) (k : Nat) : l.set k (l.getD k noO) = l := by
  apply List.ext_getElem
  · simp
  · intro i h1 h2
    rw [List.getElem_set]
    by_cases e : k = i
    · subst e; rw [if_pos rfl]; simp [h2]
    · rw [if_neg e]
theorem newestL_at (a b : List Ow) (j : Nat) (hj : j < 8) : (newestL a b).getD j noO = joO (a.getD j noO) (okO (b.getD j noO)) := by
  simp [newestL, List.getD_eq_getElem?_getD, hj]
theorem own_ext {a b : List Ow} (ha : a.length = 8) (hb : b.length = 8) (h : ∀ j, j < 8 → a.getD j noO = b.getD j noO) : a = b := by
  apply List.ext_getElem (by omega)
  intro i h1 h2
  have := h i (by omega)
  simpa [List.getD_eq_getElem?_getD, h1, h2] using this
end Go.Proofs.YthmnjebmnocoiaaGreat

/- The orders of package gossip: cmp.Compare, cmp.Or, newer. -/
namespace Go.Proofs.YthmnjebmnocoiaaGreat
open Go.RowKit

def cmpN (a b : Int) : Int := if a < b then -1 else if b < a then 1 else 0
theorem nan_int (x : Int) (w : World) : Calls Tryz.prog 94 #[.int .i64 x] w fun e w' => e = .returned (.bool false) ∧ w' = w := by
  go_enter Tryz.func94, Tryz.ntmps94
  go_wp2
  go_ret
  simp
theorem nan_u64 (x : Int) (w : World) : Calls Tryz.prog 115 #[.int .u64 x] w fun e w' => e = .returned (.bool false) ∧ w' = w := by
  go_enter Tryz.func115, Tryz.ntmps115
  go_wp2
  go_ret
  simp
set_option maxRecDepth 100000 in
theorem compare_int (x y : Int) (w : World) : Calls Tryz.prog 66 #[.int .i64 x, .int .i64 y] w fun e w' => e = .returned (.int .i64 (cmpN x y)) ∧ w' = w := by
  unfold cmpN
  have h1 := nan_int x w
  have h2 := nan_int y w
  go_enter Tryz.func66, Tryz.ntmps66
  by_cases hl : x < y
  · simp only [hl, if_true]
    go_wp2_with (first | (go_at_call 94; refine h1.mono ?_; rintro e w' ⟨rfl, rfl⟩) | (go_at_call 94; refine h2.mono ?_; rintro e w' ⟨rfl, rfl⟩))
    go_ret
    exact ⟨rfl, rfl⟩
  · by_cases hg : y < x
    · simp only [hl, hg, if_true, if_false]
      go_wp2_with (first | (go_at_call 94; refine h1.mono ?_; rintro e w' ⟨rfl, rfl⟩) | (go_at_call 94; refine h2.mono ?_; rintro e w' ⟨rfl, rfl⟩))
      go_ret
      exact ⟨rfl, rfl⟩
    · simp only [hl, hg, if_false]
      go_wp2_with (first | (go_at_call 94; refine h1.mono ?_; rintro e w' ⟨rfl, rfl⟩) | (go_at_call 94; refine h2.mono ?_; rintro e w' ⟨rfl, rfl⟩))
      go_ret
      exact ⟨rfl, rfl⟩
set_option maxRecDepth 100000 in
theorem compare_u64 (x y : Int) (w : World) : Calls Tryz.prog 106 #[.int .u64 x, .int .u64 y] w fun e w' => e = .returned (.int .i64 (cmpN x y)) ∧ w' = w := by
  unfold cmpN
  have h1 := nan_u64 x w
  have h2 := nan_u64 y w
  go_enter Tryz.func106, Tryz.ntmps106
  by_cases hl : x < y
  · simp only [hl, if_true]
    go_wp2_with (first | (go_at_call 115; refine h1.mono ?_; rintro e w' ⟨rfl, rfl⟩) | (go_at_call 115; refine h2.mono ?_; rintro e w' ⟨rfl, rfl⟩))
    go_ret
    exact ⟨rfl, rfl⟩
  · by_cases hg : y < x
    · simp only [hl, hg, if_true, if_false]
      go_wp2_with (first | (go_at_call 115; refine h1.mono ?_; rintro e w' ⟨rfl, rfl⟩) | (go_at_call 115; refine h2.mono ?_; rintro e w' ⟨rfl, rfl⟩))
      go_ret
      exact ⟨rfl, rfl⟩
    · simp only [hl, hg, if_false]
      go_wp2_with (first | (go_at_call 115; refine h1.mono ?_; rintro e w' ⟨rfl, rfl⟩) | (go_at_call 115; refine h2.mono ?_; rintro e w' ⟨rfl, rfl⟩))
      go_ret
      exact ⟨rfl, rfl⟩
set_option maxRecDepth 100000 in
set_option maxHeartbeats 1000000 in
theorem or_two (g : Nat) (x y : Int) (w : World) (h : Holds w g [.int .i64 x, .int .i64 y] 3) : Calls Tryz.prog 105 #[.slice (some ⟨g, 0, none⟩) 2 2] w fun e w' => e = .returned (.int .i64 (if x = 0 then y else x)) ∧ w' = w := by
  have c0 := h.at 0 _ rfl
  have c1 := h.at 1 _ rfl
  go_enter Tryz.func105, Tryz.ntmps105
  go_wp2
  go_loopw [8] (fun c wr => wr = w ∧ (c = .int .i64 0 ∨ (c = .int .i64 1 ∧ x = 0) ∨ (c = .int .i64 2 ∧ x = 0 ∧ y = 0))) (fun c _ => 2 - (intOf c).toNat)
  case atStart => exact ⟨rfl, Or.inl rfl⟩
  case round =>
  obtain ⟨rfl, rfl | ⟨rfl, rfl⟩ | ⟨rfl, rfl, rfl⟩⟩ := hrel
  · by_cases hx : x = 0
    · subst hx
      go_wp2
      exact ⟨⟨trivial, by simp⟩, by simp [intOf]⟩
    · have hb : (x == 0) = false := by simpa using hx
      go_wp2
      go_ret
      simp
  · by_cases hx : y = 0
    · subst hx
      go_wp2
      exact ⟨⟨trivial, by simp⟩, by simp [intOf]⟩
    · have hb : (y == 0) = false := by simpa using hx
      go_wp2
      go_ret
      simp
  · go_wp2
    go_ret
    simp
theorem belowD (B : Nat) (w : World) (q : Nat) : Below B w (w.drewN q) := by
  induction q with
  | zero => exact Below.refl _ _
  | succ q ih => exact ih.trans (Below.drew (Below.refl _ _))
end Go.Proofs.YthmnjebmnocoiaaGreat

/- The orders of package gossip by age: newerMember, newerOwner. -/
namespace Go.Proofs.YthmnjebmnocoiaaGreat
open Go.RowKit

def mbV (m : Mb) : List Value := [.int .i64 m.1, .int .i64 m.2.1, .int .u64 (m.2.2 : Int)]
def owV (o : Ow) : List Value := [.int .i64 o.1, .int .u64 (o.2 : Int)]
def cmpAge (v v' : Nat) (r r' : Int) : Int := if cmpN v v' = 0 then cmpN r r' else cmpN v v'
theorem cmpAge_pos (v v' : Nat) (r r' : Int) : 0 < cmpAge v v' r r' ↔ v' < v ∨ v' = v ∧ r' < r := by
  unfold cmpAge cmpN
  by_cases h1 : (v : Int) < v' <;> by_cases h2 : (v' : Int) < v <;> by_cases h3 : r < r' <;> by_cases h4 : r' < r <;> simp [h1, h2, h3, h4] <;> omega
set_option maxRecDepth 100000 in
set_option maxHeartbeats 1000000 in
theorem ageM_any (m : Mb) (w : World) : Calls Tryz.prog 88 #[.agg (mbV m).toArray] w fun e w' => e = .returned (.tuple #[.int .u64 (m.2.2 : Int), .int .i64 m.2.1]) ∧ Below w.heap.size w w' := by
  obtain ⟨N, hN⟩ : ∃ N, w.heap.size = N := ⟨_, rfl⟩
  rw [hN]
  obtain ⟨n, s, v⟩ := m
  go_enter Tryz.func88, Tryz.ntmps88
  go_wp2_with (refine wpList_box_new 1 rfl rfl 53 _ rfl N hN _ rfl ?_; intro w1 h1; have c1 := h1.holds.at 1 _ rfl; have c2 := h1.holds.at 2 _ rfl)
  go_quiet (fail)
  go_wp2
  go_ret2
  exact ⟨rfl, h1.below.trans (belowD _ _ _)⟩
set_option maxRecDepth 100000 in
set_option maxHeartbeats 1000000 in
theorem ageO_any (m : Ow) (w : World) : Calls Tryz.prog 90 #[.agg (owV m).toArray] w fun e w' => e = .returned (.tuple #[.int .u64 (m.2 : Int), .int .i64 m.1]) ∧ Below w.heap.size w w' := by
  obtain ⟨N, hN⟩ : ∃ N, w.heap.size = N := ⟨_, rfl⟩
  rw [hN]
  obtain ⟨n, v⟩ := m
  go_enter Tryz.func90, Tryz.ntmps90
  go_wp2_with (refine wpList_box_new 1 rfl rfl 25 _ rfl N hN _ rfl ?_; intro w1 h1; have c0 := h1.holds.at 0 _ rfl; have c1 := h1.holds.at 1 _ rfl)
  go_quiet (fail)
  go_wp2
  go_ret2
  exact ⟨rfl, h1.below.trans (belowD _ _ _)⟩
set_option maxRecDepth 100000 in
set_option maxHeartbeats 1000000 in
theorem newerM_any (m o : Mb) (b : Nat) (w : World) (hb : Holds w b [.func (.func 88) #[] #[]] 121) : Calls Tryz.prog 104 #[.agg (mbV m).toArray, .agg (mbV o).toArray, .pointer (some ⟨b, 0, none⟩)] w fun e w' => e = .returned (.int .i64 (cmpAge m.2.2 o.2.2 m.2.1 o.2.1)) ∧ Below w.heap.size w w' := by
  obtain ⟨N, hN⟩ : ∃ N, w.heap.size = N := ⟨_, rfl⟩
  have hbN : b < N := hN ▸ hb.lt
  rw [hN]
  unfold cmpAge
  have hm := fun W => ageM_any m W
  have ho := fun W => ageM_any o W
  obtain ⟨n, s, v⟩ := m
  obtain ⟨n', s', v'⟩ := o
  have hcu := fun W => compare_u64 v v' W
  have hci := fun W => compare_int s s' W
  generalize cmpN (v : Int) v' = x at *
  generalize cmpN s s' = y at *
  have hor := fun g W => or_two g x y W
  generalize (if x = 0 then y else x) = r at *
  go_enter Tryz.func104, Tryz.ntmps104
  go_wp2_with (first
    | (refine wpList_box_new 3 rfl rfl 53 _ rfl N hN _ rfl ?_; intro w1 h1)
    | (refine wpList_box_new 4 rfl rfl 53 _ rfl (N + 1) h1.size _ rfl ?_; intro w2 h2; have b02 := h1.below.trans (h2.below.mono (by omega)); have hc := (hb.below b02 hbN).at 0 _ rfl; have H12 := h1.holds.below h2.below (by omega); have p0 := H12.at 0 _ rfl; have p1 := H12.at 1 _ rfl; have p2 := H12.at 2 _ rfl)
    | (go_at_call 88; refine (hm _).mono ?_; rintro e w3 ⟨rfl, b3⟩; rw [h2.size] at b3; have hc3 := (hb.below (b02.trans (b3.mono (by omega))) hbN).at 0 _ rfl; have H23 := h2.holds.below b3 (by omega); have q0 := H23.at 0 _ rfl; have q1 := H23.at 1 _ rfl; have q2 := H23.at 2 _ rfl)
    | (go_at_call 88; refine (ho _).mono ?_; rintro e w4 ⟨rfl, b4⟩)
    | (go_at_call 106; refine (hcu _).mono ?_; rintro e w5 ⟨rfl, rfl⟩)
    | (go_at_call 66; refine (hci _).mono ?_; rintro e w6 ⟨rfl, rfl⟩)
    | (go_at_call 105; refine (hor _ _ (holds_new _ [.int .i64 x, .int .i64 y] 3)).mono ?_; rintro e w7 ⟨rfl, rfl⟩))
  go_ret
  exact ⟨rfl, ((b02.trans (b3.mono (by omega))).trans (b4.mono (by have := b3.size; rw [h2.size] at this; omega))).alloc (by have := b3.size; have := b4.size; rw [h2.size] at *; omega) _⟩
set_option maxRecDepth 100000 in
set_option maxHeartbeats 1000000 in
theorem newerO_any (m o : Ow) (b : Nat) (w : World) (hb : Holds w b [.func (.func 90) #[] #[]] 123) : Calls Tryz.prog 107 #[.agg (owV m).toArray, .agg (owV o).toArray, .pointer (some ⟨b, 0, none⟩)] w fun e w' => e = .returned (.int .i64 (cmpAge m.2 o.2 m.1 o.1)) ∧ Below w.heap.size w w' := by
  obtain ⟨N, hN⟩ : ∃ N, w.heap.size = N := ⟨_, rfl⟩
  have hbN : b < N := hN ▸ hb.lt
  rw [hN]
  unfold cmpAge
  have hm := fun W => ageO_any m W
  have ho := fun W => ageO_any o W
  obtain ⟨s, v⟩ := m
  obtain ⟨s', v'⟩ := o
  have hcu := fun W => compare_u64 v v' W
  have hci := fun W => compare_int s s' W
  generalize cmpN (v : Int) v' = x at *
  generalize cmpN s s' = y at *
  have hor := fun g W => or_two g x y W
  generalize (if x = 0 then y else x) = r at *
  go_enter Tryz.func107, Tryz.ntmps107
  go_wp2_with (first
    | (refine wpList_box_new 3 rfl rfl 25 _ rfl N hN _ rfl ?_; intro w1 h1)
    | (refine wpList_box_new 4 rfl rfl 25 _ rfl (N + 1) h1.size _ rfl ?_; intro w2 h2; have b02 := h1.below.trans (h2.below.mono (by omega)); have hc := (hb.below b02 hbN).at 0 _ rfl; have H12 := h1.holds.below h2.below (by omega); have p0 := H12.at 0 _ rfl; have p1 := H12.at 1 _ rfl)
    | (go_at_call 90; refine (hm _).mono ?_; rintro e w3 ⟨rfl, b3⟩; rw [h2.size] at b3; have hc3 := (hb.below (b02.trans (b3.mono (by omega))) hbN).at 0 _ rfl; have H23 := h2.holds.below b3 (by omega); have q0 := H23.at 0 _ rfl; have q1 := H23.at 1 _ rfl)
    | (go_at_call 90; refine (ho _).mono ?_; rintro e w4 ⟨rfl, b4⟩)
    | (go_at_call 106; refine (hcu _).mono ?_; rintro e w5 ⟨rfl, rfl⟩)
    | (go_at_call 66; refine (hci _).mono ?_; rintro e w6 ⟨rfl, rfl⟩)
    | (go_at_call 105; refine (hor _ _ (holds_new _ [.int .i64 x, .int .i64 y] 3)).mono ?_; rintro e w7 ⟨rfl, rfl⟩))
  go_ret
  exact ⟨rfl, ((b02.trans (b3.mono (by omega))).trans (b4.mono (by have := b3.size; rw [h2.size] at this; omega))).alloc (by have := b3.size; have := b4.size; rw [h2.size] at *; omega) _⟩
set_option maxRecDepth 100000 in
theorem newerMember_any (w : World) : Calls Tryz.prog 61 #[] w fun e w' => e = .returned (.func (.func 104) #[] #[.pointer (some ⟨w.heap.size, 0, none⟩)]) ∧ Anew w.heap.size w w' [.func (.func 88) #[] #[]] 121 := by
  have hf : Calls Tryz.prog 87 #[.func (.func 88) #[] #[]] w fun e w' => e = .returned (.func (.func 104) #[] #[.pointer (some ⟨w.heap.size, 0, none⟩)]) ∧ w' = w.alloc (.cells #[.func (.func 88) #[] #[]] 121) := by
    go_enter Tryz.func87, Tryz.ntmps87
    go_wp2
    go_ret
    exact ⟨rfl, rfl⟩
  go_enter Tryz.func61, Tryz.ntmps61
  go_wp2_with (go_at_call 87; refine hf.mono ?_; rintro e w1 ⟨rfl, rfl⟩)
  go_ret
  exact ⟨rfl, anew_alloc _ w rfl [.func (.func 88) #[] #[]] 121⟩
set_option maxRecDepth 100000 in
theorem newerOwner_any (w : World) : Calls Tryz.prog 62 #[] w fun e w' => e = .returned (.func (.func 107) #[] #[.pointer (some ⟨w.heap.size, 0, none⟩)]) ∧ Anew w.heap.size w w' [.func (.func 90) #[] #[]] 123 := by
  have hf : Calls Tryz.prog 89 #[.func (.func 90) #[] #[]] w fun e w' => e = .returned (.func (.func 107) #[] #[.pointer (some ⟨w.heap.size, 0, none⟩)]) ∧ w' = w.alloc (.cells #[.func (.func 90) #[] #[]] 123) := by
    go_enter Tryz.func89, Tryz.ntmps89
    go_wp2
    go_ret
    exact ⟨rfl, rfl⟩
  go_enter Tryz.func62, Tryz.ntmps62
  go_wp2_with (go_at_call 89; refine hf.mono ?_; rintro e w1 ⟨rfl, rfl⟩)
  go_ret
  exact ⟨rfl, anew_alloc _ w rfl [.func (.func 90) #[] #[]] 123⟩
end Go.Proofs.YthmnjebmnocoiaaGreat

/- The map of the newest members. -/
namespace Go.Proofs.YthmnjebmnocoiaaGreat
open Go.RowKit Go.Maps Go.WideMaps

def mbD (m : Mb) : DataW Unit := .agg [.lit (.int .i64 m.1), .lit (.int .i64 m.2.1), .lit (.int .u64 (m.2.2 : Int))]
def mbElem : Value → Option (DataW Unit × List MemPlace)
  | .agg cs => match cs.toList with
    | [.int .i64 a, .int .i64 b, .int .u64 (.ofNat c)] => some (mbD (a, b, c), [])
    | _ => none
  | _ => none
theorem mbElem_of (m : Mb) : mbElem (.agg (mbV m).toArray) = some (mbD m, []) := rfl
theorem mbElem_inv {v : Value} {y : DataW Unit × List MemPlace} (h : mbElem v = some y) : ∃ m, v = .agg (mbV m).toArray ∧ y = (mbD m, []) := by
  unfold mbElem at h
  split at h
  · rename_i cs
    split at h
    · rename_i a b c hl
      refine ⟨(a, b, c), ?_, by simpa using h.symm⟩
      obtain ⟨l⟩ := cs
      simp at hl
      rw [hl]; rfl
    · cases h
  · cases h
def pkM (m : Mb) : DataW Unit := if m.2.1 = 0 then .nil else mbD m
theorem mbD_inj {a b : Mb} (h : mbD a = mbD b) : a = b := by
  obtain ⟨a1, a2, a3⟩ := a
  obtain ⟨b1, b2, b3⟩ := b
  simp [mbD] at h
  obtain ⟨h1, h2, h3⟩ := h
  rw [h1, h2]
  have : a3 = b3 := by omega
  rw [this]
structure MapOf (D : DataW Unit) (k : Kn) : Prop where
  at_ : ∀ x, D.atKey (.int .i64 x) .nil = pkM (k x)
  has_ : ∀ x, has D (.int .i64 x) = decide ((k x).2.1 ≠ 0)
def KnAt (w : World) (mb : Nat) (k : Kn) : Prop := ∃ n D, w.ownsMap Tryz.prog 3 mbElem mb n D ∧ MapOf D k
theorem gund3 : Tryz.prog.underlying 3 = some (.int .i64) := by kernel_rfl
theorem gund55 : Tryz.prog.underlying 56 = some (.map 3 53) := by kernel_rfl
theorem law3 : Keyed Tryz.prog 3 := int_keyed gund3
theorem zero35 (w : World) : (zeroValue 53).run Tryz.prog w = .ok (.agg (mbV noM).toArray) w := by kernel_rfl
def I64 (x : Int) : Prop := -9223372036854775808 ≤ x ∧ x ≤ 9223372036854775807
theorem key3 (x : Int) (h : I64 x) : keyOf Tryz.prog 3 (.int .i64 x) = some (.int .i64 x) := keyOf_int_mk gund3 (by
  obtain ⟨h1, h2⟩ := h
  have e1 : IntKind.i64.min = -9223372036854775808 := by decide
  have e2 : IntKind.i64.max = 9223372036854775807 := by decide
  simp [Lit.wf, e1, e2]; omega)
theorem KnAt.same {w w' : World} {mb : Nat} {k : Kn} (h : KnAt w mb k) (hs : w'.heap[mb]? = w.heap[mb]?) : KnAt w' mb k := by
  obtain ⟨n, D, ⟨es, cl, hb, r⟩, h1⟩ := h
  exact ⟨n, D, ⟨es, cl, hs.trans hb, r⟩, h1⟩
theorem KnAt.lt {w : World} {mb : Nat} {k : Kn} (h : KnAt w mb k) : mb < w.heap.size := by
  obtain ⟨n, D, ⟨es, cl, hb, r⟩, h1⟩ := h
  exact (Array.getElem?_eq_some_iff.1 hb).1
theorem KnAt.below {w w' : World} {mb B : Nat} {k : Kn} (h : KnAt w mb k) (hb : Below B w w') (hB : mb < B) : KnAt w' mb k := h.same (hb.block mb hB)
theorem kn_made (w : World) : KnAt (w.alloc (.map #[] 0)) w.heap.size noK :=
  ⟨0, .map [], World.ownsMap_made w Tryz.prog 3 mbElem, fun _ => rfl, fun _ => rfl⟩
theorem KnAt.look {w : World} {mb : Nat} {k : Kn} (h : KnAt w mb k) (hk : Right k) (x : Int) (hx : I64 x) : (Instr.lookup 56 (.map (some mb)) (.int .i64 x) false).run Tryz.prog w = .ok (.agg (mbV (k x)).toArray) w := by
  obtain ⟨n, D, ⟨es, clock, hb, F, _, rfl⟩, hat, _⟩ := h
  rcases Maps.fit_look false law3 gund55 (zero35 w) hb F (key3 x hx) with ⟨hrun, _, ha⟩ | ⟨e0, y, _, _, hrun, hR, ha, _⟩
  · have q := (ha .nil).symm.trans (hat x)
    have hz : (k x).2.1 = 0 := by
      by_cases hz : (k x).2.1 = 0
      · exact hz
      · rw [pkM, if_neg hz] at q; cases q
    rw [hrun, hk.unseen hz]; rfl
  · have q := (ha .nil).symm.trans (hat x)
    obtain ⟨m, hv, hy⟩ := mbElem_inv hR
    rw [hy] at q
    by_cases hz : (k x).2.1 = 0
    · rw [pkM, if_pos hz] at q; cases q
    · rw [pkM, if_neg hz] at q
      rw [hrun, hv, ← mbD_inj q]; rfl
def litI : Lit → Int
  | .int _ x => x
  | _ => 0
theorem kn_keys {w : World} {mb n : Nat} {D : DataW Unit} {k : Kn} (hown : w.ownsMap Tryz.prog 3 mbElem mb n D) (hk : Right k) (hM : MapOf D k) : Maps.size D ≤ 7 := by
  obtain ⟨es, hD, hpw, _⟩ := hown.entries law3
  obtain ⟨es', hD', hko⟩ := hown.keysOf
  obtain rfl : es = es' := by rw [hD] at hD'; simpa using hD'
  subst hD
  have hint : ∀ p ∈ es, p.1 = .int .i64 (litI p.1) := fun p hp => by
    obtain ⟨v, hv⟩ := hko p hp
    obtain ⟨x, _, hx, _⟩ := Maps.keyOf_int_inv gund3 hv
    rw [hx]; rfl
  have hnd : (es.map fun p => litI p.1).Nodup := by
    refine List.pairwise_map.2 (hpw.imp_of_mem fun {p q} hp hq hne e => hne ?_)
    rw [hint p hp, hint q hq]
    exact congrArg _ e
  have hsub : ∀ x ∈ es.map (fun p => litI p.1), x ∈ seven := fun x hx => by
    obtain ⟨p, hp, rfl⟩ := List.mem_map.1 hx
    have hh : has (.map es) (.int .i64 (litI p.1)) = true := by
      rw [has_eq, List.any_eq_true]
      refine ⟨p, hp, ?_⟩
      rw [hint p hp]; simp [Lit.sameKey, litI]
    rw [hM.has_] at hh
    have := hk.seen (by simpa using hh)
    rw [okM_iff] at this
    rw [mem_seven]; omega
  have hp : (es.map fun p => litI p.1).Perm (seven.filter fun x => decide (x ∈ es.map fun p => litI p.1)) := by
    refine (List.perm_ext_iff_of_nodup hnd (seven_nodup.filter _)).2 fun x => ?_
    rw [List.mem_filter]
    exact ⟨fun hx => ⟨hsub x hx, by simpa using hx⟩, fun hx => by simpa using hx.2⟩
  have hl := hp.length_eq
  rw [List.length_map] at hl
  have : (seven.filter fun x => decide (x ∈ es.map fun p => litI p.1)).length ≤ 7 := List.length_filter_le _ _
  show es.length ≤ 7
  omega
theorem kn_tight {w : World} {mb n : Nat} {D : DataW Unit} (h : w.ownsMap Tryz.prog 3 mbElem mb n D) : w.ownsMap Tryz.prog 3 mbElem mb (Maps.size D) D := by
  obtain ⟨es, clock, hb, F, hs, hD⟩ := h
  refine ⟨es, clock, hb, F, ?_, hD⟩
  rw [hD]
  show es.size ≤ List.length _
  rw [length_read]
  exact Nat.le_refl _
theorem isKeyLit_int (x : Int) : WideAt.IsKeyLit (.int .i64 x) := trivial
theorem KnAt.store {w : World} {mb : Nat} {k : Kn} (h : KnAt w mb k) (hk : Right k) (m : Mb) (hm : okM m = true) :
    ∃ w', (Instr.mapUpdate 56 (.map (some mb)) (.int .i64 m.1) (.agg (mbV m).toArray)).run Tryz.prog w = .ok () w' ∧ KnAt w' mb (upd k m) ∧ Upd mb w w' := by
  obtain ⟨n, D, hown, hM⟩ := h
  have hsz := kn_keys hown hk hM
  have hown2 := kn_tight hown
  have hm' := (okM_iff m).1 hm
  obtain ⟨w1, hput, hown1, hturn1⟩ := hown2.store law3 gund55 (by unfold maxLen; omega) (key3 m.1 ⟨by omega, by omega⟩) (mbElem_of m)
  have hg := hturn1.grown
  refine ⟨w1, hput, ⟨_, _, hown1, fun x => ?_, fun x => ?_⟩, ⟨hg.os, hg.tape, hg.output, hg.size, fun i hi hne => hg.block i hi (by simpa using hne)⟩⟩
  · unfold upd
    by_cases e : x = m.1
    · subst e
      rw [if_pos rfl, atKey_put_same hown.isMap (isKeyLit_int _), pkM, if_neg (by omega)]
    · rw [if_neg e, atKey_put_other (fun q => e (by simpa using q)), hM.at_]
  · unfold upd
    by_cases e : x = m.1
    · subst e
      rw [if_pos rfl, has_put_same hown.isMap (isKeyLit_int _)]
      have : m.2.1 ≠ 0 := by omega
      simp [this]
    · rw [if_neg e, has_put_other (fun q => e (by simpa using q)), hM.has_]
end Go.Proofs.YthmnjebmnocoiaaGreat

/- maps.Values (41, 60), AppendSeq (88), Collect (58) at the newest members: each one once, in some order. -/
namespace Go.Proofs.YthmnjebmnocoiaaGreat
open Go.RowKit Go.Maps Go.WideMaps Go.Sort Go.Shelf
attribute [local go_sem] Oper.semAt_some

abbrev encM (m : Mb) : Value := .agg #[.int .i64 m.1, .int .i64 m.2.1, .int .u64 (m.2.2 : Int)]
def ValAt (D0 : DataW Unit) (m : Mb) : Prop := D0.atKey (.int .i64 m.1) .nil = mbD m
def AllOf (D0 : DataW Unit) (ps : List Mb) : Prop := (ps.map (·.1)).Nodup ∧ (∀ x, x ∈ ps.map (·.1) ↔ has D0 (.int .i64 x) = true) ∧ ∀ p ∈ ps, ValAt D0 p
def Keyd (D0 : DataW Unit) : Prop := ∀ x m, D0.atKey (.int .i64 x) .nil = mbD m → m.1 = x
def CollI (D0 : DataW Unit) (left : Lit → Bool) (ss : List Int) : Prop := ss.Nodup ∧ ∀ x, x ∈ ss ↔ (has D0 (.int .i64 x) = true ∧ left (.int .i64 x) = false)
theorem CollI.start (D0 : DataW Unit) : CollI D0 (has D0) [] := ⟨List.nodup_nil, fun x => by cases has D0 (.int .i64 x) <;> simp⟩
theorem CollI.step {D0 : DataW Unit} {left : Lit → Bool} {ss : List Int} (h : CollI D0 left ss) {x : Int} {y : DataW Unit} (hlk : left (.int .i64 x) = true) (hat : ∀ zd, D0.atKey (.int .i64 x) zd = y) : CollI D0 (fun z => left z && !z.sameKey (.int .i64 x)) (ss ++ [x]) := by
  have hhas : has D0 (.int .i64 x) = true := has_true_of_atKey hat
  have hnew : x ∉ ss := fun hx => by have := ((h.2 x).1 hx).2; rw [hlk] at this; cases this
  refine ⟨List.nodup_append.2 ⟨h.1, by simp, fun a ha b hb => by simp at hb; subst hb; exact fun e => hnew (e ▸ ha)⟩, fun y => ?_⟩
  by_cases hy : y = x
  · subst hy; simp [hhas, Lit.sameKey]
  · simp [h.2 y, hy, Lit.sameKey]

set_option maxRecDepth 100000 in
set_option maxHeartbeats 1000000 in
theorem values1_in (F : Fence) (n : Nat) (h59 : F.fn 93) (hro : F.round = none) (hn : 1 ≤ n) (l Bm b nn : Nat) (D0 : DataW Unit) (hD : Keyd D0) (J Jx : List Mb → World → Prop)
    (hY : ∀ pre x W, J pre W → pre.length < Maps.size D0 → YieldAt F (n - 1) Tryz.prog l #[encM x] W fun e W' =>
      (e = .returned (.bool true) ∧ J (pre ++ [x]) W' ∧ KeepsWalks W W') ∨ (e = .returned (.bool false) ∧ Jx (pre ++ [x]) W'))
    (W : World) (hJ : AbidesFrom W.heap.size J) (hm : W.cell? ⟨Bm, 0, none⟩ = some (.map (some b))) (hown : W.ownsMap Tryz.prog 3 mbElem b nn D0) (h0 : J [] W) :
    CallsIn F n Tryz.prog 93 #[.func (.yield l) #[] #[], .pointer (some ⟨Bm, 0, none⟩)] W fun e W' => (∃ v, e = .returned v) ∧
      ((∃ ps, AllOf D0 ps ∧ J ps W') ∨ (∃ pre, True ∧ Jx pre W')) := by
  refine callsIn_of_wp Tryz.func93 rfl h59 ?_ hro
  simp only [Tryz.ntmps93, List.size_toArray, List.length_cons, List.length_nil, Nat.reduceAdd, Nat.reduceSub, Array.replicate_succ, Array.replicate_zero, List.push_toArray, List.append_toArray, List.nil_append, List.cons_append]
  gi_wp2_with (first
    | (gi_at_range; refine wpListIn_range_own _ rfl _ 56 rfl 3 53 law3 gund55 _ b nn _ rfl hown ?_; intro w0 hrg0 hg0 hs0)
    | gi_in)
  go_frame
  gi_loopw [4] (fun _ wr => ∃ (left : Lit → Bool) (cnt : Nat) (ps : List Mb), wr.ranges Tryz.prog 3 mbElem b W.heap.size nn D0 left cnt ∧ ps.length + cnt ≤ Maps.size D0 ∧ CollI D0 left (ps.map (·.1)) ∧ (∀ p ∈ ps, ValAt D0 p) ∧ J ps wr)
    (fun _ wr => wr.rangeLeft b W.heap.size)
  case atStart =>
    exact ⟨_, _, [], hrg0, by simp, CollI.start D0, by simp, hJ [] W w0 none h0 hg0 (fun r e => by cases e)⟩
  case round =>
    obtain ⟨left, cnt, ps, hrg, hcs, hC, hV, hJs⟩ := hrel
    gi_wp2_with (first
      | (gi_at_next; refine wpListIn_next_ranges _ rfl _ rfl 3 law3 mbElem (fun x : Int => Value.int .i64 x) encM (fun key kl hk => by obtain ⟨x, hx, _⟩ := Maps.keyOf_int_inv gund3 hk; exact ⟨x, hx⟩) (fun v y hv => by obtain ⟨m, rfl, _⟩ := mbElem_inv hv; exact ⟨m, rfl⟩) b W.heap.size nn _ _ _ rfl hrg ?_ ?_)
      | gi_in)
    · -- nothing is left
      intro hc0 hl0
      gi_wp2
      go_end0
      exact ⟨⟨_, rfl⟩, .inl ⟨ps, ⟨hC.1, fun x => by rw [hC.2 x, hl0]; simp, hV⟩, hJs⟩⟩
    · -- a member has come
      intro x c1 c2 c3 kl yd yp w2 cnt2 hkey hlk hv hat hrg2 hlt hg2 hs2 hen
      obtain ⟨x', ex, rfl, _⟩ := Maps.keyOf_int_inv gund3 hkey
      obtain rfl : x = x' := by simpa using ex
      have hyd : yd = mbD (c1, c2, c3) := (Prod.mk.inj (Option.some.inj (hv.symm.trans (mbElem_of (c1, c2, c3))))).1
      obtain rfl : c1 = x := hD x (c1, c2, c3) ((hat .nil).trans hyd)
      have hJ2 : J ps w2 := hJ ps wr w2 (some W.heap.size) hJs hg2 (fun r e => by cases e; exact ⟨Nat.le_refl _, hrg.iter_walk⟩)
      have hJ3 : J ps (w2.alloc (.cells #[.int .i64 c1, .int .i64 c2, .int .u64 (c3 : Int)] 53)) := hJ ps w2 _ none hJ2 (World.grownBy_alloc w2 _ none) (fun r e => by cases e)
      obtain ⟨fn, tmps, assign, body, hy, hR⟩ := hY ps (c1, c2, c3) _ hJ3 (by omega)
      have q0 := (holds_new w2 [.int .i64 c1, .int .i64 c2, .int .u64 (c3 : Int)] 53).at 0 _ rfl
      have q1 := (holds_new w2 [.int .i64 c1, .int .i64 c2, .int .u64 (c3 : Int)] 53).at 1 _ rfl
      have q2 := (holds_new w2 [.int .i64 c1, .int .i64 c2, .int .u64 (c3 : Int)] 53).at 2 _ rfl
      have hC2 : CollI D0 (fun z => left z && !z.sameKey (.int .i64 c1)) ((ps ++ [(c1, c2, c3)]).map (·.1)) := by simpa using hC.step hlk hat
      have hV2 : ∀ p ∈ ps ++ [(c1, c2, c3)], ValAt D0 p := fun p hp => (List.mem_append.1 hp).elim (hV p) (fun e => by simp at e; subst e; exact (hat .nil).trans hyd)
      have hrg3 := hrg2.of_walks (KeepsWalks.alloc w2 (.cells #[.int .i64 c1, .int .i64 c2, .int .u64 (c3 : Int)] 53))
      have hlt3 : (w2.alloc (.cells #[.int .i64 c1, .int .i64 c2, .int .u64 (c3 : Int)] 53)).rangeLeft b W.heap.size < wr.rangeLeft b W.heap.size := by rw [hrg3.left_eq, hrg.left_eq]; exact hlt
      clear hs2 hv hyd
      dsimp only [encM] at hy hen
      gi_wp2
      refine hR.mono ?_
      rintro e W3 (⟨rfl, hJ4, hk4⟩ | ⟨rfl, hJx4⟩)
      · gi_wp2
        have hrg4 := hrg3.of_walks hk4
        go_roundw
        case rel => exact ⟨_, cnt2, ps ++ [(c1, c2, c3)], hrg4, by simp; omega, hC2, hV2, hJ4⟩
        case measure => rw [hrg4.left_eq, hrg.left_eq]; exact hlt
      · gi_wp2
        refine bodyPost_ret (results_none rfl _ _ _) rfl ?_
        exact ⟨⟨_, rfl⟩, .inr ⟨ps ++ [(c1, c2, c3)], trivial, hJx4⟩⟩
set_option maxHeartbeats 1000000 in
theorem values_in (F : Fence) (n : Nat) (hf : F.fn 64) (hro : F.round = none) (mb : Option Nat) (w : World) :
    CallsIn F n Tryz.prog 64 #[.map mb] w fun e w' => e = .returned (.func (.func 93) #[] #[.pointer (some ⟨w.heap.size, 0, none⟩)]) ∧ w' = w.alloc (.cells #[.map mb] 56) := by
  refine callsIn_of_wp Tryz.func64 rfl hf ?_ hro
  simp only [Tryz.ntmps64, List.size_toArray, List.length_cons, List.length_nil, Nat.reduceAdd, Nat.reduceSub, Array.replicate_succ, Array.replicate_zero, List.push_toArray, List.append_toArray, List.nil_append, List.cons_append]
  gi_wp2
  go_ret
  exact ⟨rfl, rfl⟩
theorem values_stops (F : Fence) (n : Nat) (h59 : F.fn 93) (hro : F.round = none) (hn : 1 ≤ n) (Bm b nn : Nat) (D0 : DataW Unit) (hD : Keyd D0) (w : World) (hBm : Bm < w.heap.size)
    (hm : w.cell? ⟨Bm, 0, none⟩ = some (.map (some b))) (hown : w.ownsMap Tryz.prog 3 mbElem b nn D0) :
    SeqStopsK F n Tryz.prog 93 #[.pointer (some ⟨Bm, 0, none⟩)] (fun x : Mb => #[encM x]) KeepsWalks (AllOf D0) (fun _ => True) (Maps.size D0) w := fun l J Jx W hW hJ _ hY h0 => by
  have hown' : W.ownsMap Tryz.prog 3 mbElem b nn D0 := by
    have hbl := hown.lt
    obtain ⟨es, clock, hb, Ft, hs, hD⟩ := hown
    exact ⟨es, clock, (hW.block b hbl).trans hb, Ft, hs, hD⟩
  exact values1_in F n h59 hro hn l Bm b nn D0 hD J Jx hY W hJ ((hW.cell (p := ⟨Bm, 0, none⟩) hBm).trans hm) hown' h0
end Go.Proofs.YthmnjebmnocoiaaGreat

/- slices.Collect (58), AppendSeq (88) of members. -/
namespace Go.Proofs.YthmnjebmnocoiaaGreat
open Go.RowKit Go.Maps Go.WideMaps Go.Sort Go.Shelf
attribute [local go_sem] Oper.semAt_some

def cellsP (ps : List Mb) : List Value := ps.flatMap mbV
theorem cellsP_append (a b : List Mb) : cellsP (a ++ b) = cellsP a ++ cellsP b := by simp [cellsP]
theorem info35 : (Tryz.prog.info? 53).map (fun i => (i.zero, i.size, i.bytes)) = some (some (.agg #[.int .i64 0, .int .i64 0, .int .u64 0]), 3, 24) := by kernel_rfl

theorem holds_own {β : Type} (B : Nat) (cs : β → List Value) (t : TypeId) : Go.Own (fun s W => Holds W B (cs s) t) := fun s X Y row hs hg hrow => by
  unfold Holds at *
  exact (grownBy_keeps_cells hg hrow hs rfl).trans hs
set_option maxRecDepth 100000 in
set_option maxHeartbeats 4000000 in
theorem appendSeq_some (Bm b nn : Nat) (D0 : DataW Unit) (hD : Keyd D0) (hmax : Maps.size D0 ≤ 7) (w : World) (hBm : Bm < w.heap.size) (hm : w.cell? ⟨Bm, 0, none⟩ = some (.map (some b))) (hown : w.ownsMap Tryz.prog 3 mbElem b nn D0) :
    Calls Tryz.prog 108 #[.slice none 0 0, .func (.func 93) #[] #[.pointer (some ⟨Bm, 0, none⟩)]] w fun e w' => ∃ v ps, e = .returned v ∧ AllOf D0 ps ∧ w'.ownsRow w.heap.size 53 3 v ps.length (cellsP ps) ∧ Below w.heap.size w w' := by
  obtain ⟨i0, hi, hz0, hz1, hz2⟩ := info_parts info35
  refine (callsIn_wide (n := 3)).1 ?_
  refine callsIn_of_wp_marks Tryz.func108 rfl trivial ?_ rfl
  simp only [Tryz.ntmps108, List.size_toArray, List.length_cons, List.length_nil, Nat.reduceAdd, Nat.reduceSub, Array.replicate_succ, Array.replicate_zero, List.push_toArray, List.append_toArray, List.nil_append, List.cons_append]
  gi_wp2
  obtain ⟨m, hm0⟩ : ∃ m, w.heap.size = m := ⟨_, rfl⟩
  rw [hm0]
  have b0 := holds_new w [.slice none 0 0] 22
  rw [hm0] at b0
  have hB0 : Below m w (w.alloc (.cells #[.slice none 0 0] 22)) := (Below.refl _ w).alloc (by omega) _
  have hsz : (w.alloc (.cells #[.slice none 0 0] 22)).heap.size = m + 1 := by simp [hm0]
  have hst := values_stops Fence.wide 2 trivial rfl (by omega) Bm b nn D0 hD w hBm hm hown
  obtain ⟨W0, hW0⟩ : ∃ W0, w.alloc (.cells #[.slice none 0 0] 22) = W0 := ⟨_, rfl⟩
  simp only [List.toArray] at b0
  rw [hW0] at b0 hB0 hsz ⊢
  clear hW0
  have hbox : Boxed W0 m 22 (.slice none 0 0) := b0
  refine wpIn_rangeFunc_ownH rfl (by omega) (gf := 93) (lb := #[.pointer (some ⟨Bm, 0, none⟩)]) rfl trivial (enters_of Tryz.func93 (by kernel_rfl) rfl)
    hst walksK_t walksK_b (hB0.mono (by omega)) (fun _ => rfl)
    (fun pre W => (∃ v, Boxed W m 22 v ∧ W.ownsRow m 53 3 v pre.length (cellsP pre) ∧ True) ∧ Below m w W)
    (fun _ _ _ => False)
    (OwnFrom.and (Go.Own.from (holdsRow_own m m 22 53 3 (fun pre : List Mb => pre.length) (fun pre => cellsP pre) (fun _ _ => True)) _) (ownFrom_below (by omega) (by omega)))
    (fun _ _ _ _ _ hs _ _ => hs)
    ⟨⟨_, hbox, World.ownsRow_nil _ _ _ _, trivial⟩, hB0⟩
    (fun x a' W => ∃ Bx, m < Bx ∧ Holds W Bx (mbV x) 53 ∧ a' = { tmps := #[.slice none 0 0, .func (.func 93) #[] #[.pointer (some ⟨Bm, 0, none⟩)], .pointer (some ⟨m, 0, none⟩), undef, .slice none 0 0, .pointer (some ⟨Bx, 0, none⟩), .func (.func 93) #[] #[.pointer (some ⟨Bm, 0, none⟩)], encM x, undef, undef, undef, undef, undef], defers := [] })
    (fun x a' _ X Y row hs hg hr => by obtain ⟨Bx, h1, h2, h3⟩ := hs; exact ⟨Bx, h1, holds_own Bx (fun (_ : Unit) => mbV x) 53 () X Y row h2 hg (fun r e => (hr r e).2), h3⟩)
    ?assign ?body ?done ?stop
  case assign =>
    rintro l pre ⟨x1, x2, x3⟩ W K ⟨⟨v, h1, hr, _⟩, hB1⟩ hK
    have hle : m ≤ W.heap.size := Nat.le_trans (by omega) hB1.size
    gi_wp2
    exact hK _ _ ((KeepsOthers.alloc _ _).from _) (KeepsWalks.alloc W _) ⟨⟨v, h1.alloc _, hr.alloc _, trivial⟩, hB1.alloc hle _⟩ ⟨W.heap.size, h1.lt, holds_new W [_, _, _] 53, rfl⟩
  case body =>
    rintro l pre ⟨x1, x2, x3⟩ a' W hl ⟨r, hr⟩ ⟨⟨v, hv, hrow, _⟩, hB1⟩ ⟨Bx, hBx, bX, rfl⟩ hlt
    have c0 := hv.cell
    have y0 := bX.at 0 _ rfl
    have y1 := bX.at 1 _ rfl
    have y2 := bX.at 2 _ rfl
    have hle : m ≤ W.heap.size := Nat.le_trans (by omega) hB1.size
    have hnew : ∀ j u, [.int .i64 x1, .int .i64 x2, .int .u64 (x3 : Int)][j]? = some u → (W.alloc (.cells #[.int .i64 x1, .int .i64 x2, .int .u64 (x3 : Int)] 53)).cell? ((⟨W.heap.size, 0, none⟩ : Addr).add j) = some u := fun j u hu => by
      have := (holds_new W [.int .i64 x1, .int .i64 x2, .int .u64 (x3 : Int)] 53).at j u hu
      have e : (⟨W.heap.size, 0, none⟩ : Addr).add j = ⟨W.heap.size, j, none⟩ := by simp [Addr.add]; exact fun h => h.symm
      rw [e]; exact this
    gi_wp2_with (gi_at_builtin; refine wpListIn_append_own _ rfl _ _ 22 rfl m 53 i0 (.agg #[.int .i64 0, .int .i64 0, .int .u64 0]) 3 24 Tryz.underlying22 hi hz0 hz1 hz2 rfl (by decide) _ _ _ rfl (hrow.alloc _) ⟨W.heap.size, 0, none⟩ 1 1 [.int .i64 x1, .int .i64 x2, .int .u64 (x3 : Int)] rfl rfl hnew (by simp [Value.oneCell']) (by unfold maxLen; omega) (by omega) (by simp; omega) ?_; intro v' w1 hown' hgrow _; obtain ⟨g', cap', rfl⟩ := ownsRow_succ hown'; obtain ⟨hv1, hv2, hr2, hk2, hb2⟩ := hv.appended (by decide) hrow hle (Nat.le_refl _) hown' hgrow; have hc1 := hv1.cell; have hf1 := hv1.frozen)
    have hcd : cellsP (pre ++ [(x1, x2, x3)]) = cellsP pre ++ [.int .i64 x1, .int .i64 x2, .int .u64 (x3 : Int)] := by rw [cellsP_append]; rfl
    have hr4 : (w1.setCell ⟨m, 0, none⟩ (.slice (some ⟨g', 0, none⟩) (pre.length + 1) cap')).ownsRow m 53 3 (.slice (some ⟨g', 0, none⟩) (pre.length + 1) cap') (pre ++ [(x1, x2, x3)]).length (cellsP (pre ++ [(x1, x2, x3)])) := by rw [hcd, List.length_append]; exact hr2
    exact ⟨hk2.from _, hk2.walks, ⟨_, hv2, hr4⟩, hB1.trans hb2⟩
  case done =>
    rintro D zs W hD0 hAll ⟨⟨v, hv, hrow, _⟩, hB1⟩ hK
    have c0 := hv.cell
    have hB3 := hB1.trans (belowK_b (w := w) (Nat.le_of_eq hm0.symm) W D (.deferred (some [])) (.deferred none) (by omega) hK rfl rfl)
    have hr3 := ownsRow_putObj hrow (.deferred none) hK rfl
    gi_wp2
    refine ⟨by simp, .inl ⟨_, _, rfl, run_takeDeferred hK, ?_⟩⟩
    refine ⟨_, results_tmp rfl _ _ _, _, zs, rfl, hAll, ?_, ?_⟩
    · rw [hm0]; exact hr3
    · rw [hm0]; exact hB3
  case stop =>
    rintro D c pre W _ _ h _
    exact h.elim
set_option maxRecDepth 100000 in
set_option maxHeartbeats 1000000 in
theorem collect_some (Bm b nn : Nat) (D0 : DataW Unit) (hD : Keyd D0) (hmax : Maps.size D0 ≤ 7) (w : World) (hBm : Bm < w.heap.size) (hm : w.cell? ⟨Bm, 0, none⟩ = some (.map (some b))) (hown : w.ownsMap Tryz.prog 3 mbElem b nn D0) :
    Calls Tryz.prog 91 #[.func (.func 93) #[] #[.pointer (some ⟨Bm, 0, none⟩)]] w fun e w' => ∃ v ps, e = .returned v ∧ AllOf D0 ps ∧ w'.ownsRow w.heap.size 53 3 v ps.length (cellsP ps) ∧ Below w.heap.size w w' := by
  have ha := appendSeq_some Bm b nn D0 hD hmax w hBm hm hown
  clear hown hm
  go_enter Tryz.func91, Tryz.ntmps91
  go_wp2_with (go_at_call 108; refine ha.mono ?_; rintro e w' ⟨v, ps, rfl, hR⟩)
  go_ret
  exact ⟨v, ps, rfl, hR⟩
end Go.Proofs.YthmnjebmnocoiaaGreat

/- Members by their nodes: the order that is told, without memory; slices.SortFunc of them. -/
namespace Go.Proofs.YthmnjebmnocoiaaGreat
open Go.RowKit Go.Shelf Go.Sort Go.Lib

def prC (p : Mb) : List Value := mbV p
def cmpP (x y : Mb) : Int := cmpN x.1 y.1
theorem cmpP_lt (x y : Mb) : ltOf cmpP x y = decide (x.1 < y.1) := by
  unfold ltOf cmpP cmpN
  by_cases h1 : x.1 < y.1
  · simp [h1]
  · by_cases h2 : y.1 < x.1 <;> simp [h1, h2]
theorem cmpP_swo : SWO (ltOf cmpP) where
  irrefl x := by rw [cmpP_lt]; simp
  trans x y z h1 h2 := by rw [cmpP_lt] at *; simp at *; omega
  ntrans x y z h1 h2 := by rw [cmpP_lt] at *; simp at *; omega
theorem cellsP_len (l : List Mb) : (cellsP l).length = l.length * 3 := by
  induction l with
  | nil => rfl
  | cons p l ih => simp [cellsP, mbV] at ih ⊢; omega
theorem cellsP_cell : ∀ {l : List Mb} {i : Nat} {p : Mb}, l[i]? = some p → ∀ (j : Nat), j < 3 → ∀ tl : List Value, (cellsP l ++ tl)[i * 3 + j]? = (mbV p)[j]?
  | [], i, p, h, j, hj, tl => by simp at h
  | q :: l, 0, p, h, j, hj, tl => by
    simp at h
    subst h
    rw [Nat.zero_mul, Nat.zero_add]
    have e : cellsP (q :: l) ++ tl = mbV q ++ (cellsP l ++ tl) := by simp [cellsP]
    rw [e, List.getElem?_append_left (by simpa [mbV] using hj)]
  | q :: l, i + 1, p, h, j, hj, tl => by
    have := cellsP_cell (l := l) (i := i) (p := p) (by simpa using h) j hj tl
    have e : cellsP (q :: l) ++ tl = mbV q ++ (cellsP l ++ tl) := by simp [cellsP]
    rw [e, List.getElem?_append_right (by simp [mbV]; omega), ← this]
    congr 1
    simp [mbV]; omega
theorem flat_cellsP (l : List Mb) (t : Nat) (h : t < l.length * 3) (tl : List Value) : (cellsP l ++ tl)[t]? = some ((prC l.toArray[t / 3]!)[t % 3]!) := by
  have hlt : t / 3 < l.length := by omega
  have hd : l[t / 3]? = some l[t / 3] := List.getElem?_eq_getElem hlt
  have he : l.toArray[t / 3]! = l[t / 3] := by simp [hlt]
  have hm : t % 3 < 3 := Nat.mod_lt _ (by omega)
  have hc := cellsP_cell hd (t % 3) hm tl
  have ht : t / 3 * 3 + t % 3 = t := by omega
  rw [ht] at hc
  rw [hc, he]
  unfold prC
  rw [List.getElem!_eq_getElem?_getD, List.getElem?_eq_getElem (by simpa [mbV] using hm)]
  rfl
theorem holdsK_pr {w : World} {b : Nat} {l : List Mb} {tl : List Value} (h : Holds w b (cellsP l ++ tl) 53) : HoldsK prC 3 w b 0 l.toArray := fun j hj => by
  have hj' : j < l.length * 3 := by simpa using hj
  refine ⟨?_, h.frozen _⟩
  rw [Nat.zero_add, h.at j _ (flat_cellsP l j hj' tl), get_flatK _ _ _ _ (by simpa using hj')]
  rfl
theorem put_blockP {w : World} {b m : Nat} {l l' : List Mb} {tl : List Value} (h : Holds w b (cellsP l ++ tl) 53) (hm : m ≤ b) (hl : l'.length = l.length) (n : Nat) (os : Array Obj) :
    Holds (sortWorldK prC 3 w b 0 n l'.toArray os) b (cellsP l' ++ tl) 53 ∧ Below m w (sortWorldK prC 3 w b 0 n l'.toArray os) := by
  have hb := h.lt
  have hsz : (putRowK prC 3 (Go.Sort.ahead w n) b 0 l'.toArray).heap.size = w.heap.size := by
    simp [putRowK, putRow, mapBlock, Go.Sort.ahead]
  have hh : ∀ k, (putRowK prC 3 (Go.Sort.ahead w n) b 0 l'.toArray).heap[k]? = if b = k then (w.heap[k]?).map (onCells (putCells id 0 (flatK prC 3 l'.toArray))) else w.heap[k]? := by
    intro k
    simp only [putRowK, putRow, mapBlock, Go.Sort.ahead, Array.getElem?_modify]
  have hg : ∀ k, k < w.heap.size → (sortWorldK prC 3 w b 0 n l'.toArray os).heap[k]? = (putRowK prC 3 (Go.Sort.ahead w n) b 0 l'.toArray).heap[k]? := by
    intro k hk
    show (_ ++ os)[k]? = _
    rw [Array.getElem?_append_left (by rw [hsz]; exact hk)]
  refine ⟨?_, rfl, rfl, rfl, ?_, fun k hk => ?_⟩
  · unfold Holds at *
    rw [hg b hb, hh, if_pos rfl, h]
    show some (Obj.cells (putCells id 0 (flatK prC 3 l'.toArray) (cellsP l ++ tl).toArray) 53 (0, 0)) = _
    congr 2
    apply Array.ext_getElem?
    intro i
    simp only [putCells, Array.getElem?_mapIdx, List.getElem?_toArray, size_flatK]
    rcases Nat.lt_or_ge i (l.length * 3) with g | g
    · rw [flat_cellsP l i g tl, flat_cellsP l' i (by omega) tl]
      simp only [Option.map_some]
      rw [if_pos (by simp; omega), get_flatK _ _ _ _ (by simp; omega)]
      rfl
    · rw [List.getElem?_append_right (by rw [cellsP_len]; omega), List.getElem?_append_right (by rw [cellsP_len]; omega), cellsP_len, cellsP_len, hl]
      cases tl[i - l.length * 3]? with
      | none => rfl
      | some v => simp only [Option.map_some]; rw [if_neg (by simp; omega)]
  · show w.heap.size ≤ (_ ++ os).size
    rw [Array.size_append, hsz]; omega
  · rw [hg k (by omega), hh, if_neg (by omega)]
theorem pair_filter (k : Kn) (hk : Right k) : ∀ ns : List Int, ns.Pairwise (· < ·) → ((ns.map k).filter fun m => decide (m.2.1 ≠ 0)).Pairwise fun x y => x.1 < y.1
  | [], _ => by simp
  | x :: ns, h => by
    obtain ⟨h1, h2⟩ := List.pairwise_cons.1 h
    have ih := pair_filter k hk ns h2
    by_cases hx : (k x).2.1 = 0
    · have e : ((x :: ns).map k).filter (fun m => decide (m.2.1 ≠ 0)) = (ns.map k).filter fun m => decide (m.2.1 ≠ 0) := by simp [hx]
      rw [e]; exact ih
    · have e : ((x :: ns).map k).filter (fun m => decide (m.2.1 ≠ 0)) = k x :: (ns.map k).filter fun m => decide (m.2.1 ≠ 0) := by simp [hx]
      rw [e]
      refine List.pairwise_cons.2 ⟨fun m hm => ?_, ih⟩
      obtain ⟨hm1, hm2⟩ := List.mem_filter.1 hm
      obtain ⟨y, hy, rfl⟩ := List.mem_map.1 hm1
      rw [(hk.seen hx).2, (hk.seen (by simpa using hm2)).2]
      exact h1 y hy
theorem risL_rise (k : Kn) (hk : Right k) : (risL k).Pairwise fun x y => x.1 < y.1 := pair_filter k hk seven (by decide)
theorem mem_risL (k : Kn) (hk : Right k) (m : Mb) : m ∈ risL k ↔ m.2.1 ≠ 0 ∧ k m.1 = m := by
  unfold risL
  rw [List.mem_filter]
  constructor
  · rintro ⟨h1, h2⟩
    obtain ⟨x, _, rfl⟩ := List.mem_map.1 h1
    have h2 : (k x).2.1 ≠ 0 := by simpa using h2
    exact ⟨h2, by rw [(hk.seen h2).2]⟩
  · rintro ⟨h1, h2⟩
    refine ⟨List.mem_map.2 ⟨m.1, ?_, h2⟩, by simpa using h1⟩
    have := hk.seen (n := m.1) (by rw [h2]; exact h1)
    rw [h2, okM_iff] at this
    rw [mem_seven]; exact this.1.1
theorem risL_len (k : Kn) : (risL k).length ≤ 7 := List.length_filter_le _ _
theorem ris_sorted {k : Kn} (hk : Right k) {l : List Mb} (hp : l.Perm (risL k)) (hs : l.Pairwise fun x y => ¬ y.1 < x.1) : l = risL k := by
  refine List.Perm.eq_of_pairwise (le := fun x y : Mb => ¬ y.1 < x.1) (fun a b ha hb h1 h2 => ?_) hs ((risL_rise k hk).imp fun {p q} hlt => by omega) hp
  have e : a.1 = b.1 := by omega
  have ha' := (mem_risL k hk a).1 (hp.mem_iff.1 ha)
  have hb' := (mem_risL k hk b).1 hb
  rw [← ha'.2, ← hb'.2, e]
theorem all_perm {D : DataW Unit} {k : Kn} (hk : Right k) (hM : MapOf D k) {ps : List Mb} (h : AllOf D ps) : ps.Perm (risL k) := by
  obtain ⟨h1, h2, h3⟩ := h
  have hn : ps.Nodup := (List.pairwise_map.1 h1).imp fun {a b} h e => h (congrArg Prod.fst e)
  have hv : ∀ p ∈ ps, k p.1 = p ∧ p.2.1 ≠ 0 := fun p hp => by
    have e := h3 p hp
    unfold ValAt at e
    rw [hM.at_, pkM] at e
    split at e
    · cases e
    · rename_i hz
      have := mbD_inj e
      exact ⟨this, by rw [this] at hz; exact hz⟩
  have hkn : (risL k).Nodup := (risL_rise k hk).imp fun {p q} hlt e => by rw [e] at hlt; omega
  refine (List.perm_ext_iff_of_nodup hn hkn).2 fun p => ⟨fun hp => (mem_risL k hk p).2 ⟨(hv p hp).2, (hv p hp).1⟩, fun hp => ?_⟩
  obtain ⟨q1, q2⟩ := (mem_risL k hk p).1 hp
  have hm : p.1 ∈ ps.map (·.1) := (h2 p.1).2 (by rw [hM.has_, q2]; simpa using q1)
  obtain ⟨p', hp', e⟩ := List.mem_map.1 hm
  have := (hv p' hp').1
  rw [e, q2] at this
  rw [this]; exact hp'
end Go.Proofs.YthmnjebmnocoiaaGreat
