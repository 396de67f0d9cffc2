/- greatestFirst (40), ofOneActor (42), cmp.Compare (59), cmp.Or (58). -/
import Derived.Test.YtbmeflildmeecaaClDots
import Derived.Deep.RegionWith
import Derived.Deep.RegionHeld3
import Derived.Deep.Draws
import Derived.Sort.Grow
namespace Go.Proofs.Ytbmeflildmeecaa
open Go.RowKit Go.Shelf Go.Sort Go.Lib

def cmpN (a b : Nat) : Int := if a < b then -1 else if b < a then 1 else 0
def orI (p q : Int) : Int := if p = 0 then q else p
def cmpD (x y : Dt) : Int := orI (cmpN x.1 y.1) (cmpN y.2 x.2)

set_option maxHeartbeats 1000000 in
theorem isNaN_any (a : Nat) (w : World) : Calls Try.prog 79 #[.int .u64 (a : Int)] w fun e w' => e = .returned (.bool false) ∧ w' = w := by
  go_enter Try.func79, Try.ntmps79
  go_wp2
  go_ret
  exact ⟨by simp, rfl⟩
set_option maxHeartbeats 1000000 in
theorem compare_any (a b : Nat) (w : World) : Calls Try.prog 59 #[.int .u64 (a : Int), .int .u64 (b : Int)] w fun e w' => e = .returned (.int .i64 (cmpN a b)) ∧ w' = w := by
  have h := @isNaN_any
  rcases Nat.lt_trichotomy a b with g | g | g
  · have hc : cmpN a b = -1 := by unfold cmpN; rw [if_pos g]
    rw [hc]
    go_enter Try.func59, Try.ntmps59
    go_wp2_with (go_at_call 79; refine (h _ _).mono ?_; rintro e w' ⟨rfl, rfl⟩)
    go_ret
    exact ⟨rfl, rfl⟩
  · have hc : cmpN a b = 0 := by unfold cmpN; rw [if_neg (by omega), if_neg (by omega)]
    rw [hc]
    subst g
    go_enter Try.func59, Try.ntmps59
    go_wp2_with (go_at_call 79; refine (h _ _).mono ?_; rintro e w' ⟨rfl, rfl⟩)
    go_ret
    exact ⟨rfl, rfl⟩
  · have hc : cmpN a b = 1 := by unfold cmpN; rw [if_neg (by omega), if_pos g]
    rw [hc]
    go_enter Try.func59, Try.ntmps59
    go_wp2_with (go_at_call 79; refine (h _ _).mono ?_; rintro e w' ⟨rfl, rfl⟩)
    go_ret
    exact ⟨rfl, rfl⟩

set_option maxHeartbeats 1000000 in
theorem or_any (p q : Int) (B : Nat) (w : World) (h0 : w.cell? ⟨B, 0, none⟩ = some (.int .i64 p)) (h1 : w.cell? ⟨B, 1, none⟩ = some (.int .i64 q)) :
    Calls Try.prog 58 #[.slice (some ⟨B, 0, none⟩) 2 2] w fun e w' => e = .returned (.int .i64 (if p = 0 then q else p)) ∧ w' = w := by
  go_enter Try.func58, Try.ntmps58
  go_wp2
  go_loop [8] (fun c => ∃ k : Nat, k ≤ 2 ∧ c = .int .i64 (k : Int) ∧ (1 ≤ k → p = 0) ∧ (2 ≤ k → q = 0)) (fun c => 2 - (intOf c).toNat)
  case atStart => exact ⟨0, by omega, rfl, by omega, by omega⟩
  case round =>
    obtain ⟨k, hk, rfl, k1, k2⟩ := hrel
    have hk3 : k = 0 ∨ k = 1 ∨ k = 2 := by omega
    rcases hk3 with rfl | rfl | rfl
    · by_cases hp : p = 0
      · go_wp2
        go_round
        case rel => exact ⟨1, by omega, by simp, fun _ => hp, by omega⟩
        case measure => simp
      · go_wp2
        go_ret
        exact ⟨rfl, rfl⟩
    · have hp := k1 (by omega)
      by_cases hq : q = 0
      · go_wp2
        go_round
        case rel => exact ⟨2, by omega, by simp, fun _ => hp, fun _ => hq⟩
        case measure => simp
      · go_wp2
        go_ret
        exact ⟨rfl, rfl⟩
    · have hp := k1 (by omega)
      have hq := k2 (by omega)
      go_wp2
      go_ret
      exact ⟨by first | rfl | simp_all, rfl⟩

set_option maxHeartbeats 1000000 in
theorem ofOne_any (x y : Dt) (w : World) : Calls Try.prog 42 #[dotV x, dotV y] w fun e w' => e = .returned (.bool (decide (x.1 = y.1))) ∧ Below w.heap.size w w' := by
  have x0 := ((holds_new w [.int .u64 (x.1 : Int), .int .u64 (x.2 : Int)] 33).alloc (.cells #[.int .u64 (y.1 : Int), .int .u64 (y.2 : Int)] 33)).at 0 _ rfl
  have y0 := (holds_new (w.alloc (.cells #[.int .u64 (x.1 : Int), .int .u64 (x.2 : Int)] 33)) [.int .u64 (y.1 : Int), .int .u64 (y.2 : Int)] 33).at 0 _ rfl
  rw [World.size_alloc] at y0
  have hB := ((Below.refl w.heap.size w).alloc (Nat.le_refl _) (.cells #[.int .u64 (x.1 : Int), .int .u64 (x.2 : Int)] 33)).alloc (by simp) (.cells #[.int .u64 (y.1 : Int), .int .u64 (y.2 : Int)] 33)
  have hd : ((x.1 : Int) == (y.1 : Int)) = decide (x.1 = y.1) := by
    by_cases h : x.1 = y.1
    · simp [h]
    · rw [decide_eq_false h]; exact beq_eq_false_iff_ne.2 (fun e => h (by omega))
  go_enter Try.func42, Try.ntmps42
  go_wp2
  go_ret
  exact ⟨rfl, hB⟩

set_option maxHeartbeats 4000000 in
theorem or_hid (p q : Int) (B : Nat) (w : World) (h0 : w.cell? ⟨B, 0, none⟩ = some (.int .i64 p)) (h1 : w.cell? ⟨B, 1, none⟩ = some (.int .i64 q)) :
    Calls Try.prog 58 #[.slice (some ⟨B, 0, none⟩) 2 2] w fun e w' => e = .returned (.int .i64 (orI p q)) ∧ w' = w := or_any p q B w h0 h1
set_option maxHeartbeats 4000000 in
theorem greatest_any (x y : Dt) (w : World) : Calls Try.prog 40 #[dotV x, dotV y] w fun e w' => e = .returned (.int .i64 (cmpD x y)) ∧ ∃ q os', w' = grow (w.drewN q) os' := by
  have x0 := ((holds_new w [.int .u64 (x.1 : Int), .int .u64 (x.2 : Int)] 33).alloc (.cells #[.int .u64 (y.1 : Int), .int .u64 (y.2 : Int)] 33)).at 0 _ rfl
  have x1 := ((holds_new w [.int .u64 (x.1 : Int), .int .u64 (x.2 : Int)] 33).alloc (.cells #[.int .u64 (y.1 : Int), .int .u64 (y.2 : Int)] 33)).at 1 _ rfl
  have y0 := (holds_new (w.alloc (.cells #[.int .u64 (x.1 : Int), .int .u64 (x.2 : Int)] 33)) [.int .u64 (y.1 : Int), .int .u64 (y.2 : Int)] 33).at 0 _ rfl
  have y1 := (holds_new (w.alloc (.cells #[.int .u64 (x.1 : Int), .int .u64 (x.2 : Int)] 33)) [.int .u64 (y.1 : Int), .int .u64 (y.2 : Int)] 33).at 1 _ rfl
  rw [World.size_alloc] at y0 y1
  have hcmp := @compare_any
  have hor := @or_hid
  have z0 := (holds_new ((w.alloc (.cells #[.int .u64 (x.1 : Int), .int .u64 (x.2 : Int)] 33)).alloc (.cells #[.int .u64 (y.1 : Int), .int .u64 (y.2 : Int)] 33)).drew [.int .i64 (cmpN x.1 y.1), .int .i64 (cmpN y.2 x.2)] 3).at 0 _ rfl
  have z1 := (holds_new ((w.alloc (.cells #[.int .u64 (x.1 : Int), .int .u64 (x.2 : Int)] 33)).alloc (.cells #[.int .u64 (y.1 : Int), .int .u64 (y.2 : Int)] 33)).drew [.int .i64 (cmpN x.1 y.1), .int .i64 (cmpN y.2 x.2)] 3).at 1 _ rfl
  have hs : ((w.alloc (.cells #[.int .u64 (x.1 : Int), .int .u64 (x.2 : Int)] 33)).alloc (.cells #[.int .u64 (y.1 : Int), .int .u64 (y.2 : Int)] 33)).drew.heap.size = w.heap.size + 1 + 1 := by
    show ((w.alloc (.cells #[.int .u64 (x.1 : Int), .int .u64 (x.2 : Int)] 33)).alloc (.cells #[.int .u64 (y.1 : Int), .int .u64 (y.2 : Int)] 33)).heap.size = _
    simp
  rw [hs] at z0 z1
  go_enter Try.func40, Try.ntmps40
  go_wp2_with fail
  have n0 := World.new_ne _ _ x0
  have n1 := World.new_ne _ _ x1
  have n2 := World.new_ne _ _ y0
  have n3 := World.new_ne _ _ y1
  go_region_held3 (fun w' => w'.cell? ⟨w.heap.size, 0, none⟩ = some (.int .u64 (x.1 : Int)) ∧ w'.cell? ⟨w.heap.size, 1, none⟩ = some (.int .u64 (x.2 : Int)) ∧ w'.cell? ⟨w.heap.size + 1, 0, none⟩ = some (.int .u64 (y.1 : Int)) ∧ w'.cell? ⟨w.heap.size + 1, 1, none⟩ = some (.int .u64 (y.2 : Int))) (go_keep) (first | (go_at_call 59; refine (hcmp _ _ _).mono ?_; rintro e w' ⟨rfl, rfl⟩) | (go_at_call 58; refine (hor _ _ _ _ z0 z1).mono ?_; rintro e w' ⟨rfl, rfl⟩))
  all_goals
    go_wp2
    go_ret
    exact ⟨rfl, 1, _, by rw [alloc_eq_grow, alloc_eq_grow, alloc_eq_grow, grow_grow, grow_grow]; rfl⟩
end Go.Proofs.Ytbmeflildmeecaa
