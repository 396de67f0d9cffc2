/- ClockSteps (4): the law's call returns true. -/
import Derived.Test.YtbmeflildmeecaaOrder
namespace Go.Proofs.Ytbmeflildmeecaa
open Go.RowKit Go.Shelf Go.Sort Go.Lib Pk

theorem get2 {W : World} {u : Value} {c : List Dt} {n : Nat} (actor : Nat) (hu : At W u c) (hn : getN c actor = n) (hl : c.length < 9223372036854775807) : Calls Try.prog 12 #[u, .int .u64 (actor : Int)] W fun e w' => e = .returned (.int .u64 (n : Int)) ∧ Below W.heap.size W w' := by
  have := get_any u c actor hl W (Hid.out hu)
  rwa [hn] at this
theorem step_get (D : List Dt) (actor g : Nat) (h : getN D actor = g) : getN (norm (D ++ [(actor, g + 1)])) actor = g + 1 := by
  rw [getN_norm, getN_append, getN_one, if_pos rfl, h]
  simp only
  omega
theorem norm_len1 (D : List Dt) (x : Dt) : (norm (D ++ [x])).length ≤ D.length + 1 := by
  have := norm_len (D ++ [x])
  simpa using this

set_option maxRecDepth 100000 in
set_option maxHeartbeats 10000000 in
theorem steps_pos_over (c : List Dt) (actor g n : Nat) (s : Int) (hg : getN c actor = g) (hgl : g < 18446744073709551616) (hn : n ≤ 50) (hr : s.tmod 51 = (n : Int)) (ho : 18446744073709551616 ≤ g + n + 1) (hl : c.length ≤ 8796093021952) (a0 : Option Addr) (c0 : Nat) (w : World) (kc : Clk (Lt w.heap.size) w (.slice a0 c.length c0) c) :
    Calls Try.prog 4 #[.slice a0 c.length c0, .int .u64 (actor : Int), .int .i64 s] w fun e w' => e = .returned (.bool true) ∧ Below w.heap.size w w' := by
  have h10 := awake_any w
  have k0 : At w (.slice a0 c.length c0) c := kc
  clear kc
  have nn : ¬ (n : Int) < 0 := by omega
  have gw : IntKind.u64.wrap (n : Int) = (n : Int) := by rw [wrap_u64]; omega
  have gw2 : IntKind.u64.wrap (IntKind.u64.wrap ((g : Int) + (n : Int)) + 1) = (g : Int) + (n : Int) + 1 - 18446744073709551616 := by rw [wrap_u64, wrap_u64]; omega
  have gt : (g : Int) + (n : Int) + 1 - 18446744073709551616 < (g : Int) := by omega
  go_enter Try.func4, Try.ntmps4
  go_wp2_with (first
    | (go_at_call 12; refine (get2 actor k1 hg (by omega)).mono ?_; rintro e w2 ⟨rfl, b2⟩; have k2 := k1.up b2; clear k1)
    | (go_at_call 10; refine h10.mono ?_; rintro e w1 ⟨rfl, b1⟩; have k1 := k0.up b1; clear k0))
  go_ret
  exact ⟨rfl, below_trans b1 b2⟩

set_option maxRecDepth 100000 in
set_option maxHeartbeats 10000000 in
theorem steps_pos_some (c : List Dt) (actor g n : Nat) (s : Int) (hg : getN c actor = g) (hgl : g < 18446744073709551616) (hn : n ≤ 50) (hr : s.tmod 51 = (n : Int)) (ho : g + n + 1 < 18446744073709551616) (hz : 0 < g + n) (hl : c.length ≤ 8796093021952) (a0 : Option Addr) (c0 : Nat) (w : World) (kc : Clk (Lt w.heap.size) w (.slice a0 c.length c0) c) :
    Calls Try.prog 4 #[.slice a0 c.length c0, .int .u64 (actor : Int), .int .i64 s] w fun e w' => e = .returned (.bool true) ∧ Below w.heap.size w w' := by
  have h10 := awake_any w
  have k0 : At w (.slice a0 c.length c0) c := kc
  clear kc
  have nn : ¬ (n : Int) < 0 := by omega
  have gw : IntKind.u64.wrap (n : Int) = (n : Int) := by rw [wrap_u64]; omega
  have gw2 : IntKind.u64.wrap ((g : Int) + (n : Int)) = (g : Int) + (n : Int) := by rw [wrap_u64]; omega
  have gw3 : IntKind.u64.wrap ((g : Int) + (n : Int) + 1) = (g : Int) + (n : Int) + 1 := by rw [wrap_u64]; omega
  have gt : ¬ (g : Int) + (n : Int) + 1 < (g : Int) := by omega
  go_enter Try.func4, Try.ntmps4
  go_wp2_with (first
    | (go_at_call 13; refine (norm1 k2 (by omega)).mono ?_; rintro e w3 ⟨a3, c3, rfl, q3, b3⟩; have k3 := Makes.at q3; clear q3 k2)
    | (go_at_call 12; refine (get2 actor k1 hg (by omega)).mono ?_; rintro e w2 ⟨rfl, b2⟩; have k2 := k1.up b2; clear k1)
    | (go_at_call 10; refine h10.mono ?_; rintro e w1 ⟨rfl, b1⟩; have k1 := k0.up b1; clear k0))
  have nl := norm_len c
  have hgn : getN (norm c) actor = g := by rw [getN_norm]; exact hg
  have bb : Below w.heap.size w w3 := below_trans b1 (below_trans b2 b3)
  go_loopw [10, 11] (fun v x wr => ∃ (i : Nat) (D : List Dt) (a : Option Addr) (cap : Nat), i ≤ n ∧ v = .slice a D.length cap ∧ x = .int .i64 (i : Int) ∧ At wr v D ∧ getN D actor = g + i ∧ D.length ≤ c.length + i ∧ Below w.heap.size w wr) (fun _ x _ => n - (intOf x).toNat)
  case atStart => exact ⟨0, norm c, a3, c3, by omega, rfl, rfl, k3, hgn, by omega, bb⟩
  case round =>
    obtain ⟨i, D, a, cp, hi, rfl, rfl, kD, hgD, hlD, hBD⟩ := hrel
    clear k3 hgn bb b1 b2 b3
    rcases Nat.lt_or_ge i n with hlt | hge
    · have hnx : nextN D actor = g + i + 1 := by unfold nextN; rw [hgD, if_pos (by omega)]
      have hNN : getN D actor < 18446744073709551616 := by omega
      have hst := step_get D actor (g + i) hgD
      have hl1 := norm_len1 D (actor, g + i + 1)
      generalize hnxe : g + i + 1 = nx at *
      go_wp2_with (first
        | (go_at_call 14; refine (add2 (actor, nx) kE (by omega)).mono ?_; rintro e w5 ⟨a5, c5, rfl, q5, b5⟩; have k5 := Makes.at q5; clear q5)
        | (go_at_call 15; refine (next2 actor kD hnx (by omega) hNN).mono ?_; rintro e w4 ⟨rfl, b4⟩; have kE := kD.up b4; clear kD))
      go_roundw
      case rel => exact ⟨i + 1, _, a5, c5, by omega, rfl, by simp, k5, by omega, by omega, below_trans hBD (below_trans b4 b5)⟩
      case measure => simp; omega
    · obtain rfl : i = n := by omega
      have hcv2 : covers D (actor, g + i + 1) = false := decide_eq_false (fun q => by have h2 : g + i + 1 ≤ getN D actor := q.2; omega)
      have e1 : ((g + i : Nat) : Int) = (g : Int) + (i : Int) := by omega
      have e2 : ((g + i + 1 : Nat) : Int) = (g : Int) + (i : Int) + 1 := by omega
      have hp := (holds_new wr [.int .u64 (actor : Int), .int .u64 ((g : Int) + (i : Int))] 33).alloc (.cells #[.int .u64 (actor : Int), .int .u64 ((g : Int) + (i : Int) + 1)] 33)
      have hq := holds_new (wr.alloc (.cells #[.int .u64 (actor : Int), .int .u64 ((g : Int) + (i : Int))] 33)) [.int .u64 (actor : Int), .int .u64 ((g : Int) + (i : Int) + 1)] 33
      rw [World.size_alloc] at hq
      have hbb : Below w.heap.size w ((wr.alloc (.cells #[.int .u64 (actor : Int), .int .u64 ((g : Int) + (i : Int))] 33)).alloc (.cells #[.int .u64 (actor : Int), .int .u64 ((g : Int) + (i : Int) + 1)] 33)) := below_trans hBD (below_trans (below_alloc wr _) (below_alloc _ _))
      have kF := (kD.up (below_alloc wr (.cells #[.int .u64 (actor : Int), .int .u64 ((g : Int) + (i : Int))] 33))).up (below_alloc _ (.cells #[.int .u64 (actor : Int), .int .u64 ((g : Int) + (i : Int) + 1)] 33))
      have p0 := hp.at 0 _ rfl
      have p1 := hp.at 1 _ rfl
      have q0 := hq.at 0 _ rfl
      have q1 := hq.at 1 _ rfl
      generalize hW : (wr.alloc (.cells #[.int .u64 (actor : Int), .int .u64 ((g : Int) + (i : Int))] 33)).alloc (.cells #[.int .u64 (actor : Int), .int .u64 ((g : Int) + (i : Int) + 1)] 33) = W at *
      have h16b : ∀ X, At X (.slice a D.length cp) D → Calls Try.prog 16 #[.slice a D.length cp, .agg #[.int .u64 (actor : Int), .int .u64 ((g : Int) + (i : Int) + 1)]] X fun e w' => e = .returned (.bool false) ∧ Below X.heap.size X w' := fun X hX => by
        have q : Calls Try.prog 16 #[.slice a D.length cp, .agg #[.int .u64 (actor : Int), .int .u64 ((g + i + 1 : Nat) : Int)]] X fun e w' => e = .returned (.bool false) ∧ Below X.heap.size X w' := covers2 (actor, g + i + 1) hX hcv2 (by omega)
        rwa [e2] at q
      have h12 : ∀ X, At X (.slice a D.length cp) D → Calls Try.prog 12 #[.slice a D.length cp, .int .u64 (actor : Int)] X fun e w' => e = .returned (.int .u64 ((g : Int) + (i : Int))) ∧ Below X.heap.size X w' := fun X hX => by
        have := get2 actor hX hgD (by omega)
        rwa [e1] at this
      have hcv1 : covers D (actor, g + i) = true := decide_eq_true ⟨by show 0 < g + i; omega, by show g + i ≤ getN D actor; omega⟩
      have hneb : ((g : Int) + (i : Int) == 0) = false := beq_eq_false_iff_ne.2 (by omega)
      have hne : ¬ (g : Int) + (i : Int) = 0 := by omega
      have h16a : ∀ X, At X (.slice a D.length cp) D → Calls Try.prog 16 #[.slice a D.length cp, .agg #[.int .u64 (actor : Int), .int .u64 ((g : Int) + (i : Int))]] X fun e w' => e = .returned (.bool true) ∧ Below X.heap.size X w' := fun X hX => by
        have q : Calls Try.prog 16 #[.slice a D.length cp, .agg #[.int .u64 (actor : Int), .int .u64 ((g + i : Nat) : Int)]] X fun e w' => e = .returned (.bool true) ∧ Below X.heap.size X w' := covers2 (actor, g + i) hX hcv1 (by omega)
        rwa [e1] at q
      clear hcv2 e1 e2
      subst hW
      go_wp2_with fail
      go_region_held3 (fun w' => w'.cell? ⟨wr.heap.size, 0, none⟩ = some (.int .u64 (actor : Int)) ∧ w'.cell? ⟨wr.heap.size, 1, none⟩ = some (.int .u64 ((g : Int) + (i : Int))) ∧ w'.cell? ⟨wr.heap.size + 1, 0, none⟩ = some (.int .u64 (actor : Int)) ∧ w'.cell? ⟨wr.heap.size + 1, 1, none⟩ = some (.int .u64 ((g : Int) + (i : Int) + 1))) (go_keep) (first
        | (go_at_call 12; refine (h12 _ kF7).mono ?_; rintro e w8 ⟨rfl, b8⟩; have kF8 := At.up kF7 b8; have hp8 := Holds.below hp7 b8 (Holds.lt hp7); have hq8 := Holds.below hq7 b8 (Holds.lt hq7); have ya := hp8.at 0 _ rfl; have yb := hp8.at 1 _ rfl; have yc := hq8.at 0 _ rfl; have yd := hq8.at 1 _ rfl)
        | (go_at_call 16; refine (h16b _ kF6).mono ?_; rintro e w7 ⟨rfl, b7⟩; have kF7 := At.up kF6 b7; have hp7 := Holds.below hp6 b7 (Holds.lt hp6); have hq7 := Holds.below hq6 b7 (Holds.lt hq6); have ua := hp7.at 0 _ rfl; have ub := hp7.at 1 _ rfl; have uc := hq7.at 0 _ rfl; have ud := hq7.at 1 _ rfl)
        | (go_at_call 16; refine (h16a _ kF.drew).mono ?_; rintro e w6 ⟨rfl, b6⟩; have kF6 := At.up kF.drew b6; have hp6 := Holds.below (Holds.drew hp) b6 (Holds.lt hp); have hq6 := Holds.below (Holds.drew hq) b6 (Holds.lt hq); have sa := hp6.at 0 _ rfl; have sb := hp6.at 1 _ rfl; have sc := hq6.at 0 _ rfl; have sd := hq6.at 1 _ rfl))
      all_goals
        go_wp2
        go_ret
        exact ⟨rfl, below_trans hbb (below_trans ((Below.refl _ _).drew) (below_trans b6 (below_trans b7 b8)))⟩

set_option maxRecDepth 100000 in
set_option maxHeartbeats 10000000 in
theorem steps_neg_over (c : List Dt) (actor g n : Nat) (s : Int) (hg : getN c actor = g) (hgl : g < 18446744073709551616) (hn : n ≤ 50) (hr : s.tmod 51 = -(n : Int)) (h0 : 0 < n) (ho : 18446744073709551616 ≤ g + n + 1) (hl : c.length ≤ 8796093021952) (a0 : Option Addr) (c0 : Nat) (w : World) (kc : Clk (Lt w.heap.size) w (.slice a0 c.length c0) c) :
    Calls Try.prog 4 #[.slice a0 c.length c0, .int .u64 (actor : Int), .int .i64 s] w fun e w' => e = .returned (.bool true) ∧ Below w.heap.size w w' := by
  have h10 := awake_any w
  have k0 : At w (.slice a0 c.length c0) c := kc
  clear kc
  have nn : -(n : Int) < 0 := by omega
  have nw : IntKind.i64.wrap (n : Int) = (n : Int) := by simp [IntKind.wrap, IntKind.bits, IntKind.signed]; omega
  have nw2 : wrap64 (n : Int) = (n : Int) := by unfold wrap64; omega
  have gw : IntKind.u64.wrap (n : Int) = (n : Int) := by rw [wrap_u64]; omega
  have gw2 : IntKind.u64.wrap (IntKind.u64.wrap ((g : Int) + (n : Int)) + 1) = (g : Int) + (n : Int) + 1 - 18446744073709551616 := by rw [wrap_u64, wrap_u64]; omega
  have gt : (g : Int) + (n : Int) + 1 - 18446744073709551616 < (g : Int) := by omega
  go_enter Try.func4, Try.ntmps4
  go_wp2_with (first
    | (go_at_call 12; refine (get2 actor k1 hg (by omega)).mono ?_; rintro e w2 ⟨rfl, b2⟩; have k2 := k1.up b2; clear k1)
    | (go_at_call 10; refine h10.mono ?_; rintro e w1 ⟨rfl, b1⟩; have k1 := k0.up b1; clear k0))
  go_ret
  exact ⟨rfl, below_trans b1 b2⟩

set_option maxRecDepth 100000 in
set_option maxHeartbeats 10000000 in
theorem steps_neg_some (c : List Dt) (actor g n : Nat) (s : Int) (hg : getN c actor = g) (hgl : g < 18446744073709551616) (hn : n ≤ 50) (hr : s.tmod 51 = -(n : Int)) (h0 : 0 < n) (ho : g + n + 1 < 18446744073709551616) (hz : 0 < g + n) (hl : c.length ≤ 8796093021952) (a0 : Option Addr) (c0 : Nat) (w : World) (kc : Clk (Lt w.heap.size) w (.slice a0 c.length c0) c) :
    Calls Try.prog 4 #[.slice a0 c.length c0, .int .u64 (actor : Int), .int .i64 s] w fun e w' => e = .returned (.bool true) ∧ Below w.heap.size w w' := by
  have h10 := awake_any w
  have k0 : At w (.slice a0 c.length c0) c := kc
  clear kc
  have nn : -(n : Int) < 0 := by omega
  have nw : IntKind.i64.wrap (n : Int) = (n : Int) := by simp [IntKind.wrap, IntKind.bits, IntKind.signed]; omega
  have nw2 : wrap64 (n : Int) = (n : Int) := by unfold wrap64; omega
  have gw : IntKind.u64.wrap (n : Int) = (n : Int) := by rw [wrap_u64]; omega
  have gw2 : IntKind.u64.wrap ((g : Int) + (n : Int)) = (g : Int) + (n : Int) := by rw [wrap_u64]; omega
  have gw3 : IntKind.u64.wrap ((g : Int) + (n : Int) + 1) = (g : Int) + (n : Int) + 1 := by rw [wrap_u64]; omega
  have gt : ¬ (g : Int) + (n : Int) + 1 < (g : Int) := by omega
  go_enter Try.func4, Try.ntmps4
  go_wp2_with (first
    | (go_at_call 13; refine (norm1 k2 (by omega)).mono ?_; rintro e w3 ⟨a3, c3, rfl, q3, b3⟩; have k3 := Makes.at q3; clear q3 k2)
    | (go_at_call 12; refine (get2 actor k1 hg (by omega)).mono ?_; rintro e w2 ⟨rfl, b2⟩; have k2 := k1.up b2; clear k1)
    | (go_at_call 10; refine h10.mono ?_; rintro e w1 ⟨rfl, b1⟩; have k1 := k0.up b1; clear k0))
  have nl := norm_len c
  have hgn : getN (norm c) actor = g := by rw [getN_norm]; exact hg
  have bb : Below w.heap.size w w3 := below_trans b1 (below_trans b2 b3)
  go_loopw [10, 11] (fun v x wr => ∃ (i : Nat) (D : List Dt) (a : Option Addr) (cap : Nat), i ≤ n ∧ v = .slice a D.length cap ∧ x = .int .i64 (i : Int) ∧ At wr v D ∧ getN D actor = g + i ∧ D.length ≤ c.length + i ∧ Below w.heap.size w wr) (fun _ x _ => n - (intOf x).toNat)
  case atStart => exact ⟨0, norm c, a3, c3, by omega, rfl, rfl, k3, hgn, by omega, bb⟩
  case round =>
    obtain ⟨i, D, a, cp, hi, rfl, rfl, kD, hgD, hlD, hBD⟩ := hrel
    clear k3 hgn bb b1 b2 b3
    rcases Nat.lt_or_ge i n with hlt | hge
    · have hnx : nextN D actor = g + i + 1 := by unfold nextN; rw [hgD, if_pos (by omega)]
      have hNN : getN D actor < 18446744073709551616 := by omega
      have hst := step_get D actor (g + i) hgD
      have hl1 := norm_len1 D (actor, g + i + 1)
      generalize hnxe : g + i + 1 = nx at *
      go_wp2_with (first
        | (go_at_call 14; refine (add2 (actor, nx) kE (by omega)).mono ?_; rintro e w5 ⟨a5, c5, rfl, q5, b5⟩; have k5 := Makes.at q5; clear q5)
        | (go_at_call 15; refine (next2 actor kD hnx (by omega) hNN).mono ?_; rintro e w4 ⟨rfl, b4⟩; have kE := kD.up b4; clear kD))
      go_roundw
      case rel => exact ⟨i + 1, _, a5, c5, by omega, rfl, by simp, k5, by omega, by omega, below_trans hBD (below_trans b4 b5)⟩
      case measure => simp; omega
    · obtain rfl : i = n := by omega
      have hcv2 : covers D (actor, g + i + 1) = false := decide_eq_false (fun q => by have h2 : g + i + 1 ≤ getN D actor := q.2; omega)
      have e1 : ((g + i : Nat) : Int) = (g : Int) + (i : Int) := by omega
      have e2 : ((g + i + 1 : Nat) : Int) = (g : Int) + (i : Int) + 1 := by omega
      have hp := (holds_new wr [.int .u64 (actor : Int), .int .u64 ((g : Int) + (i : Int))] 33).alloc (.cells #[.int .u64 (actor : Int), .int .u64 ((g : Int) + (i : Int) + 1)] 33)
      have hq := holds_new (wr.alloc (.cells #[.int .u64 (actor : Int), .int .u64 ((g : Int) + (i : Int))] 33)) [.int .u64 (actor : Int), .int .u64 ((g : Int) + (i : Int) + 1)] 33
      rw [World.size_alloc] at hq
      have hbb : Below w.heap.size w ((wr.alloc (.cells #[.int .u64 (actor : Int), .int .u64 ((g : Int) + (i : Int))] 33)).alloc (.cells #[.int .u64 (actor : Int), .int .u64 ((g : Int) + (i : Int) + 1)] 33)) := below_trans hBD (below_trans (below_alloc wr _) (below_alloc _ _))
      have kF := (kD.up (below_alloc wr (.cells #[.int .u64 (actor : Int), .int .u64 ((g : Int) + (i : Int))] 33))).up (below_alloc _ (.cells #[.int .u64 (actor : Int), .int .u64 ((g : Int) + (i : Int) + 1)] 33))
      have p0 := hp.at 0 _ rfl
      have p1 := hp.at 1 _ rfl
      have q0 := hq.at 0 _ rfl
      have q1 := hq.at 1 _ rfl
      generalize hW : (wr.alloc (.cells #[.int .u64 (actor : Int), .int .u64 ((g : Int) + (i : Int))] 33)).alloc (.cells #[.int .u64 (actor : Int), .int .u64 ((g : Int) + (i : Int) + 1)] 33) = W at *
      have h16b : ∀ X, At X (.slice a D.length cp) D → Calls Try.prog 16 #[.slice a D.length cp, .agg #[.int .u64 (actor : Int), .int .u64 ((g : Int) + (i : Int) + 1)]] X fun e w' => e = .returned (.bool false) ∧ Below X.heap.size X w' := fun X hX => by
        have q : Calls Try.prog 16 #[.slice a D.length cp, .agg #[.int .u64 (actor : Int), .int .u64 ((g + i + 1 : Nat) : Int)]] X fun e w' => e = .returned (.bool false) ∧ Below X.heap.size X w' := covers2 (actor, g + i + 1) hX hcv2 (by omega)
        rwa [e2] at q
      have h12 : ∀ X, At X (.slice a D.length cp) D → Calls Try.prog 12 #[.slice a D.length cp, .int .u64 (actor : Int)] X fun e w' => e = .returned (.int .u64 ((g : Int) + (i : Int))) ∧ Below X.heap.size X w' := fun X hX => by
        have := get2 actor hX hgD (by omega)
        rwa [e1] at this
      have hcv1 : covers D (actor, g + i) = true := decide_eq_true ⟨by show 0 < g + i; omega, by show g + i ≤ getN D actor; omega⟩
      have hneb : ((g : Int) + (i : Int) == 0) = false := beq_eq_false_iff_ne.2 (by omega)
      have hne : ¬ (g : Int) + (i : Int) = 0 := by omega
      have h16a : ∀ X, At X (.slice a D.length cp) D → Calls Try.prog 16 #[.slice a D.length cp, .agg #[.int .u64 (actor : Int), .int .u64 ((g : Int) + (i : Int))]] X fun e w' => e = .returned (.bool true) ∧ Below X.heap.size X w' := fun X hX => by
        have q : Calls Try.prog 16 #[.slice a D.length cp, .agg #[.int .u64 (actor : Int), .int .u64 ((g + i : Nat) : Int)]] X fun e w' => e = .returned (.bool true) ∧ Below X.heap.size X w' := covers2 (actor, g + i) hX hcv1 (by omega)
        rwa [e1] at q
      clear hcv2 e1 e2
      subst hW
      go_wp2_with fail
      go_region_held3 (fun w' => w'.cell? ⟨wr.heap.size, 0, none⟩ = some (.int .u64 (actor : Int)) ∧ w'.cell? ⟨wr.heap.size, 1, none⟩ = some (.int .u64 ((g : Int) + (i : Int))) ∧ w'.cell? ⟨wr.heap.size + 1, 0, none⟩ = some (.int .u64 (actor : Int)) ∧ w'.cell? ⟨wr.heap.size + 1, 1, none⟩ = some (.int .u64 ((g : Int) + (i : Int) + 1))) (go_keep) (first
        | (go_at_call 12; refine (h12 _ kF7).mono ?_; rintro e w8 ⟨rfl, b8⟩; have kF8 := At.up kF7 b8; have hp8 := Holds.below hp7 b8 (Holds.lt hp7); have hq8 := Holds.below hq7 b8 (Holds.lt hq7); have ya := hp8.at 0 _ rfl; have yb := hp8.at 1 _ rfl; have yc := hq8.at 0 _ rfl; have yd := hq8.at 1 _ rfl)
        | (go_at_call 16; refine (h16b _ kF6).mono ?_; rintro e w7 ⟨rfl, b7⟩; have kF7 := At.up kF6 b7; have hp7 := Holds.below hp6 b7 (Holds.lt hp6); have hq7 := Holds.below hq6 b7 (Holds.lt hq6); have ua := hp7.at 0 _ rfl; have ub := hp7.at 1 _ rfl; have uc := hq7.at 0 _ rfl; have ud := hq7.at 1 _ rfl)
        | (go_at_call 16; refine (h16a _ kF.drew).mono ?_; rintro e w6 ⟨rfl, b6⟩; have kF6 := At.up kF.drew b6; have hp6 := Holds.below (Holds.drew hp) b6 (Holds.lt hp); have hq6 := Holds.below (Holds.drew hq) b6 (Holds.lt hq); have sa := hp6.at 0 _ rfl; have sb := hp6.at 1 _ rfl; have sc := hq6.at 0 _ rfl; have sd := hq6.at 1 _ rfl))
      all_goals
        go_wp2
        go_ret
        exact ⟨rfl, below_trans hbb (below_trans ((Below.refl _ _).drew) (below_trans b6 (below_trans b7 b8)))⟩

set_option maxRecDepth 100000 in
set_option maxHeartbeats 10000000 in
theorem steps_zero (c : List Dt) (actor : Nat) (s : Int) (hg : getN c actor = 0) (hr : s.tmod 51 = 0) (hl : c.length ≤ 8796093021952) (a0 : Option Addr) (c0 : Nat) (w : World) (kc : Clk (Lt w.heap.size) w (.slice a0 c.length c0) c) :
    Calls Try.prog 4 #[.slice a0 c.length c0, .int .u64 (actor : Int), .int .i64 s] w fun e w' => e = .returned (.bool true) ∧ Below w.heap.size w w' := by
  have h10 := awake_any w
  have k0 : At w (.slice a0 c.length c0) c := kc
  clear kc
  have gz : ∀ W u, At W u c → Calls Try.prog 12 #[u, .int .u64 (actor : Int)] W fun e w' => e = .returned (.int .u64 0) ∧ Below W.heap.size W w' := fun W u h => get2 actor h hg (by omega)
  go_enter Try.func4, Try.ntmps4
  go_wp2_with (first
    | (go_at_call 13; refine (norm1 k2 (by omega)).mono ?_; rintro e w3 ⟨a3, c3, rfl, q3, b3⟩; have k3 := Makes.at q3; clear q3 k2)
    | (go_at_call 12; refine (gz _ _ k1).mono ?_; rintro e w2 ⟨rfl, b2⟩; have k2 := k1.up b2; clear k1)
    | (go_at_call 10; refine h10.mono ?_; rintro e w1 ⟨rfl, b1⟩; have k1 := k0.up b1; clear k0))
  have nl := norm_len c
  have hgn : getN (norm c) actor = 0 := by rw [getN_norm]; exact hg
  have bb : Below w.heap.size w w3 := below_trans b1 (below_trans b2 b3)
  generalize norm c = D at *
  go_loopw [10, 11] (fun v x wr => v = .slice a3 D.length c3 ∧ x = .int .i64 0 ∧ wr = w3) (fun _ _ _ => 0)
  case atStart => exact ⟨rfl, rfl, rfl⟩
  case round =>
    obtain ⟨rfl, rfl, rfl⟩ := hrel
    have hcv2 : covers D (actor, 1) = false := decide_eq_false (fun q => by have h2 : 1 ≤ getN D actor := q.2; omega)
    have hp := (holds_new wr [.int .u64 (actor : Int), .int .u64 0] 33).alloc (.cells #[.int .u64 (actor : Int), .int .u64 1] 33)
    have hq := holds_new (wr.alloc (.cells #[.int .u64 (actor : Int), .int .u64 0] 33)) [.int .u64 (actor : Int), .int .u64 1] 33
    rw [World.size_alloc] at hq
    have hbb : Below w.heap.size w ((wr.alloc (.cells #[.int .u64 (actor : Int), .int .u64 0] 33)).alloc (.cells #[.int .u64 (actor : Int), .int .u64 1] 33)) := below_trans bb (below_trans (below_alloc wr _) (below_alloc _ _))
    have kF := (k3.up (below_alloc wr (.cells #[.int .u64 (actor : Int), .int .u64 0] 33))).up (below_alloc _ (.cells #[.int .u64 (actor : Int), .int .u64 1] 33))
    have p0 := hp.at 0 _ rfl
    have p1 := hp.at 1 _ rfl
    have q0 := hq.at 0 _ rfl
    have q1 := hq.at 1 _ rfl
    have h16b : ∀ X, At X (.slice a3 D.length c3) D → Calls Try.prog 16 #[.slice a3 D.length c3, .agg #[.int .u64 (actor : Int), .int .u64 1]] X fun e w' => e = .returned (.bool false) ∧ Below X.heap.size X w' := fun X hX => covers2 (actor, 1) hX hcv2 (by omega)
    have h12 : ∀ X, At X (.slice a3 D.length c3) D → Calls Try.prog 12 #[.slice a3 D.length c3, .int .u64 (actor : Int)] X fun e w' => e = .returned (.int .u64 0) ∧ Below X.heap.size X w' := fun X hX => get2 actor hX hgn (by omega)
    clear hcv2 k3 gz b1 b2 b3
    go_wp2_with fail
    first
    | (go_region_with (first
      | (go_at_call 12; refine (h12 _ kF7).mono ?_; rintro e w8 ⟨rfl, b8⟩; have hp8 := Holds.below hp7 b8 (Holds.lt hp7); have hq8 := Holds.below hq7 b8 (Holds.lt hq7); have ya := hp8.at 0 _ rfl; have yb := hp8.at 1 _ rfl; have yc := hq8.at 0 _ rfl; have yd := hq8.at 1 _ rfl)
      | (go_at_call 16; refine (h16b _ kF.drew).mono ?_; rintro e w7 ⟨rfl, b7⟩; have kF7 := At.up kF.drew b7; have hp7 := Holds.below (Holds.drew hp) b7 (Holds.lt hp); have hq7 := Holds.below (Holds.drew hq) b7 (Holds.lt hq); have ua := hp7.at 0 _ rfl; have ub := hp7.at 1 _ rfl; have uc := hq7.at 0 _ rfl; have ud := hq7.at 1 _ rfl)))
    | fail
    all_goals
      go_wp2
      go_ret
      exact ⟨rfl, below_trans hbb (below_trans ((Below.refl _ _).drew) (below_trans b7 b8))⟩

theorem steps_walk (c : List Dt) (actor : Nat) (s : Int) (hf : Fit c) (hs : -9223372036854775808 ≤ s ∧ s < 9223372036854775808) (hl : c.length ≤ 8796093021952) (a0 : Option Addr) (c0 : Nat) (w : World) (kc : Clk (Lt w.heap.size) w (.slice a0 c.length c0) c) :
    Calls Try.prog 4 #[.slice a0 c.length c0, .int .u64 (actor : Int), .int .i64 s] w fun e w' => e = .returned (.bool true) ∧ Below w.heap.size w w' := by
  have hg := hf.get actor
  by_cases h : 0 ≤ s
  · have e : s.tmod 51 = ((s % 51).toNat : Int) := by rw [Int.tmod_eq_emod_of_nonneg h]; omega
    rcases Nat.lt_or_ge (getN c actor + (s % 51).toNat + 1) 18446744073709551616 with q | q
    · rcases Nat.eq_zero_or_pos (getN c actor + (s % 51).toNat) with z | z
      · exact steps_zero c actor s (by omega) (by rw [e]; omega) hl a0 c0 w kc
      · exact steps_pos_some c actor _ (s % 51).toNat s rfl hg (by omega) e q z hl a0 c0 w kc
    · exact steps_pos_over c actor _ (s % 51).toNat s rfl hg (by omega) e q hl a0 c0 w kc
  · have e : s.tmod 51 = -((-s % 51).toNat : Int) := by
      have : s.tmod 51 = -((-s).tmod 51) := by rw [Int.neg_tmod]; omega
      rw [this, Int.tmod_eq_emod_of_nonneg (by omega)]; omega
    rcases Nat.eq_zero_or_pos (-s % 51).toNat with z0 | z0
    · rcases Nat.lt_or_ge (getN c actor + 0 + 1) 18446744073709551616 with q | q
      · rcases Nat.eq_zero_or_pos (getN c actor) with z | z
        · exact steps_zero c actor s z (by rw [e, z0]; rfl) hl a0 c0 w kc
        · exact steps_pos_some c actor _ 0 s rfl hg (by omega) (by rw [e, z0]; rfl) q (by omega) hl a0 c0 w kc
      · exact steps_pos_over c actor _ 0 s rfl hg (by omega) (by rw [e, z0]; rfl) q hl a0 c0 w kc
    · rcases Nat.lt_or_ge (getN c actor + (-s % 51).toNat + 1) 18446744073709551616 with q | q
      · exact steps_neg_some c actor _ (-s % 51).toNat s rfl hg (by omega) e z0 q (by omega) hl a0 c0 w kc
      · exact steps_neg_over c actor _ (-s % 51).toNat s rfl hg (by omega) e z0 q hl a0 c0 w kc
end Go.Proofs.Ytbmeflildmeecaa
