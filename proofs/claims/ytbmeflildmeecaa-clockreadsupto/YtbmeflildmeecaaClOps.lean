/- Norm (13), Add (14), Next (15), Compare (23), Same (25). -/
import Derived.Test.YtbmeflildmeecaaClEq
import Derived.Test.YtbmeflildmeecaaClCovers
namespace Go.Proofs.Ytbmeflildmeecaa
open Go.RowKit Go.Shelf Go.Sort Go.Lib

theorem Clk.up {w w' : World} {v : Value} {l : List Dt} (h : Clk (Lt w.heap.size) w v l) (hB : Below w.heap.size w w') : Clk (Lt w'.heap.size) w' v l :=
  (h.keep (Kp.ofBelow hB (fun _ hk => hk))).mono (fun _ hk => Nat.lt_of_lt_of_le hk hB.size)
theorem Clk.made {n : Nat} {w : World} {v : Value} {l : List Dt} (h : Clk (From n w) w v l) : Clk (Lt w.heap.size) w v l := h.mono (fun _ hk => hk.2)
theorem below_alloc (w : World) (o : Obj) : Below w.heap.size w (w.alloc o) := (Below.refl _ w).alloc (Nat.le_refl _) o
theorem below_trans {a b c : World} (h : Below a.heap.size a b) (k : Below b.heap.size b c) : Below a.heap.size a c := h.trans (k.mono h.size)
/-- What a call that makes a clock tells. -/
def Makes (w : World) (c : List Dt) (e : Ending) (w' : World) : Prop := ∃ a cap, e = .returned (.slice a c.length cap) ∧ Clk (From w.heap.size w') w' (.slice a c.length cap) c ∧ Below w.heap.size w w'
theorem merge_makes (v : Value) (ls : List (List Dt)) (hl : ls.length < 9223372036854775807) (hls : ∀ c ∈ ls, c.length < 9223372036854775807) (hall : ls.flatten.length ≤ 8796093022208) (w : World) (hv : Clks (Lt w.heap.size) w v ls) :
    Calls Try.prog 17 #[v] w (Makes w (norm ls.flatten)) := by
  refine (merge_any v ls hl hls ?_ w hv).mono ?_
  · rw [allD_flat]; exact Nat.le_trans (List.length_filter_le _ _) hall
  · rintro e w' ⟨u, rfl, hc, hB⟩
    obtain ⟨a, cap, rfl, hr⟩ := id hc
    exact ⟨a, cap, rfl, hc, hB⟩
theorem Makes.alloc {w w' : World} {o : Obj} {c : List Dt} {e : Ending} (h : Makes (w.alloc o) c e w') : Makes w c e w' := by
  obtain ⟨a, cap, rfl, hc, hB⟩ := h
  exact ⟨a, cap, rfl, hc.mono (fun k hk => ⟨Nat.le_trans (below_alloc w o).size hk.1, hk.2⟩), below_trans (below_alloc w o) hB⟩
theorem clks_two {G : Nat → Prop} {b : Nat} {w : World} {u v : Value} {c d : List Dt} (hb : G b) (h0 : w.cell? ⟨b, 0, none⟩ = some u) (h1 : w.cell? ⟨b, 1, none⟩ = some v) (hu : Clk G w u c) (hv : Clk G w v d) : Clks G w (.slice (some ⟨b, 0, none⟩) 2 2) [c, d] :=
  ⟨_, _, rfl, fun i l e => by
    match i, e with
    | 0, e => cases e; exact ⟨b, 0, u, rfl, hb, h0, hu⟩
    | 1, e => cases e; exact ⟨b, 0, v, rfl, hb, h1, hv⟩
    | i + 2, e => simp at e⟩

set_option maxHeartbeats 1000000 in
theorem norm_any (v : Value) (c : List Dt) (hl : c.length ≤ 8796093022208) (w : World) (hv : Clk (Lt w.heap.size) w v c) : Calls Try.prog 13 #[v] w (Makes w (norm c)) := by
  obtain ⟨a, cap, rfl, hv'⟩ := id hv
  have h17 := merge_makes (.slice (some ⟨w.heap.size, 0, none⟩) 1 1) [c] (by simp) (by simp; omega) (by simpa using hl) (w.alloc (.cells #[.slice a c.length cap] 28)) (clks_one (by simp) ((holds_new w [.slice a c.length cap] 28).at 0 _ rfl) (hv.up (below_alloc _ _)))
  rw [show [c].flatten = c by simp] at h17
  clear hv hv'
  go_enter Try.func13, Try.ntmps13
  go_wp2_with (go_at_call 17; refine h17.mono ?_; intro e w' hm; obtain ⟨a', cap', rfl, hc, hB⟩ := id hm)
  go_ret
  exact hm.alloc
set_option maxHeartbeats 1000000 in
theorem add_any (u v : Value) (c d : List Dt) (hl : c.length + d.length ≤ 8796093022208) (w : World) (hu : Clk (Lt w.heap.size) w u c) (hv : Clk (Lt w.heap.size) w v d) : Calls Try.prog 14 #[u, v] w (Makes w (norm (c ++ d))) := by
  obtain ⟨a, cap, rfl, _⟩ := id hu
  obtain ⟨b, cap2, rfl, _⟩ := id hv
  have h17 := merge_makes (.slice (some ⟨w.heap.size, 0, none⟩) 2 2) [c, d] (by simp) (by simp; omega) (by simpa using hl) (w.alloc (.cells #[.slice a c.length cap, .slice b d.length cap2] 28)) (clks_two (by simp) ((holds_new w [.slice a c.length cap, .slice b d.length cap2] 28).at 0 _ rfl) ((holds_new w [.slice a c.length cap, .slice b d.length cap2] 28).at 1 _ rfl) (hu.up (below_alloc _ _)) (hv.up (below_alloc _ _)))
  rw [show [c, d].flatten = c ++ d by simp] at h17
  clear hu hv
  go_enter Try.func14, Try.ntmps14
  go_wp2_with (go_at_call 17; refine h17.mono ?_; intro e w' hm; obtain ⟨a', cap', rfl, hc, hB⟩ := id hm)
  go_ret
  exact hm.alloc

def nextN (c : List Dt) (actor : Nat) : Nat := if getN c actor < 18446744073709551615 then getN c actor + 1 else getN c actor
set_option maxRecDepth 100000 in
set_option maxHeartbeats 1000000 in
theorem next_any (v : Value) (c : List Dt) (actor : Nat) (hl : c.length < 9223372036854775807) (hN : getN c actor < 18446744073709551616) (w : World) (hv : Clk (Lt w.heap.size) w v c) :
    Calls Try.prog 15 #[v, .int .u64 (actor : Int)] w fun e w' => e = .returned (dotV (actor, nextN c actor)) ∧ Below w.heap.size w w' := by
  obtain ⟨a, cap, rfl, _⟩ := id hv
  have h12 := get_any (.slice a c.length cap) c actor hl (w.alloc (.cells #[.int .u64 0, .int .u64 0] 33)) (hv.up (below_alloc _ _))
  have b0 := holds_new w [.int .u64 0, .int .u64 0] 33
  clear hv
  obtain ⟨g, hg⟩ : ∃ g, getN c actor = g := ⟨_, rfl⟩
  unfold nextN
  rw [hg] at h12 hN ⊢
  by_cases hlt : g < 18446744073709551615
  · have hlt' : (g : Int) < 18446744073709551615 := by omega
    have hw : IntKind.u64.wrap ((g : Int) + 1) = (g : Int) + 1 := by rw [wrap_u64]; omega
    rw [if_pos hlt]
    go_enter Try.func15, Try.ntmps15
    go_wp2_with (go_at_call 12; refine h12.mono ?_; rintro e w1 ⟨rfl, hB⟩; have b1 := b0.below hB b0.lt; have c0 := b1.at 0 _ rfl; have c1 := b1.at 1 _ rfl; have f0 := b1.frozen 0; have f1 := b1.frozen 1)
    have b2 := (b1.set 0 (.int .u64 (actor : Int))).set 1 (.int .u64 ((g : Int) + 1))
    have d0 := b2.at 0 _ rfl
    have d1 := b2.at 1 _ rfl
    refine bodyPost_ret (v := dotV (actor, g + 1)) ?_ rfl ⟨rfl, ?_⟩
    · simp [results, Try.f15, go_sem, d0, d1]
    · exact ((below_trans (below_alloc w _) hB).setCell (p := ⟨w.heap.size, 0, none⟩) (Nat.le_refl _) _).setCell (p := ⟨w.heap.size, 1, none⟩) (Nat.le_refl _) _
  · obtain rfl : g = 18446744073709551615 := by omega
    rw [if_neg hlt]
    clear hlt hN
    go_enter Try.func15, Try.ntmps15
    go_wp2_with (go_at_call 12; refine h12.mono ?_; rintro e w1 ⟨rfl, hB⟩; have b1 := b0.below hB b0.lt; have c0 := b1.at 0 _ rfl; have c1 := b1.at 1 _ rfl; have f0 := b1.frozen 0; have f1 := b1.frozen 1)
    have b2 := (b1.set 0 (.int .u64 (actor : Int))).set 1 (.int .u64 (18446744073709551615 : Int))
    have d0 := b2.at 0 _ rfl
    have d1 := b2.at 1 _ rfl
    refine bodyPost_ret (v := dotV (actor, 18446744073709551615)) ?_ rfl ⟨rfl, ?_⟩
    · simp [results, Try.f15, go_sem, d0, d1]
    · exact ((below_trans (below_alloc w _) hB).setCell (p := ⟨w.heap.size, 0, none⟩) (Nat.le_refl _) _).setCell (p := ⟨w.heap.size, 1, none⟩) (Nat.le_refl _) _

def cmpV (a b : List Dt) : Int := if norm (a ++ b) = norm b then (if norm (a ++ b) = norm a then 0 else -1) else if norm (a ++ b) = norm a then 1 else 2
def pickI (p q : Bool) : Int := if p then (if q then 0 else -1) else if q then 1 else 2
theorem cmpV_pick (a b : List Dt) : cmpV a b = pickI (decide (norm (a ++ b) = norm b)) (decide (norm (a ++ b) = norm a)) := by
  unfold cmpV pickI
  by_cases h1 : norm (a ++ b) = norm b <;> by_cases h2 : norm (a ++ b) = norm a <;> simp [h1, h2]
theorem ins_len (d : Dt) (c : List Dt) : (insD d c).length ≤ c.length + 1 := by
  induction c with
  | nil => simp [insD]
  | cons e c ih =>
    rw [insD]
    split
    · simp
    · split
      · simp
      · simp only [List.length_cons]; omega
theorem norm_len (l : List Dt) : (norm l).length ≤ l.length := by
  have : ∀ m : List Dt, (m.foldr insD []).length ≤ m.length := by
    intro m
    induction m with
    | nil => simp
    | cons d m ih => exact Nat.le_trans (ins_len _ _) (by simpa using ih)
  exact Nat.le_trans (this _) (List.length_filter_le _ _)

set_option maxRecDepth 100000 in
set_option maxHeartbeats 4000000 in
theorem compare_clk (u v : Value) (c d : List Dt) (hl : c.length + d.length ≤ 8796093022208) (w : World) (hu : Clk (Lt w.heap.size) w u c) (hv : Clk (Lt w.heap.size) w v d) :
    Calls Try.prog 23 #[u, v] w fun e w' => e = .returned (.int .i64 (cmpV c d)) ∧ Below w.heap.size w w' := by
  obtain ⟨a, cap, rfl, _⟩ := id hu
  obtain ⟨b, cap2, rfl, _⟩ := id hv
  have h17 := merge_makes (.slice (some ⟨w.heap.size, 0, none⟩) 2 2) [c, d] (by simp) (by simp; omega) (by simpa using hl) (w.alloc (.cells #[.slice a c.length cap, .slice b d.length cap2] 28)) (clks_two (by simp) ((holds_new w [.slice a c.length cap, .slice b d.length cap2] 28).at 0 _ rfl) ((holds_new w [.slice a c.length cap, .slice b d.length cap2] 28).at 1 _ rfl) (hu.up (below_alloc _ _)) (hv.up (below_alloc _ _)))
  rw [show [c, d].flatten = c ++ d by simp] at h17
  have n1 := norm_len (c ++ d)
  rw [List.length_append] at n1
  have n2 := norm_len c
  have n3 := norm_len d
  rw [cmpV_pick]
  obtain ⟨p, hp⟩ : ∃ p, decide (norm (c ++ d) = norm d) = p := ⟨_, rfl⟩
  obtain ⟨q, hq⟩ : ∃ q, decide (norm (c ++ d) = norm c) = q := ⟨_, rfl⟩
  rw [hp, hq]
  have e1 : ∀ x y W, Clk (Lt W.heap.size) W x (norm (c ++ d)) → Clk (Lt W.heap.size) W y (norm d) → Calls Try.prog 43 #[x, y] W fun e w' => e = .returned (.bool p) ∧ Below W.heap.size W w' := fun x y W hx hy => by
    have := equal_any x y _ _ (by omega) (by omega) W hx hy
    rwa [hp] at this
  have e2 : ∀ x y W, Clk (Lt W.heap.size) W x (norm (c ++ d)) → Clk (Lt W.heap.size) W y (norm c) → Calls Try.prog 43 #[x, y] W fun e w' => e = .returned (.bool q) ∧ Below W.heap.size W w' := fun x y W hx hy => by
    have := equal_any x y _ _ (by omega) (by omega) W hx hy
    rwa [hq] at this
  have k1 := fun W (h : Clk (Lt W.heap.size) W (.slice b d.length cap2) d) => norm_any (.slice b d.length cap2) d (by omega) W h
  have k2 := fun W (h : Clk (Lt W.heap.size) W (.slice a c.length cap) c) => norm_any (.slice a c.length cap) c (by omega) W h
  clear hp hq
  generalize norm (c ++ d) = M at *
  generalize norm d = ND at *
  generalize norm c = NC at *
  have H17 : Hid (Calls Try.prog 17 #[.slice (some ⟨w.heap.size, 0, none⟩) 2 2] (w.alloc (.cells #[.slice a c.length cap, .slice b d.length cap2] 28)) (Makes (w.alloc (.cells #[.slice a c.length cap, .slice b d.length cap2] 28)) M)) := h17
  clear h17
  cases p <;> cases q <;>
  · go_enter Try.func23, Try.ntmps23
    go_wp2_with (first
      | (go_at_call 43; refine (e2 _ _ w5 (hm.up (below_trans b3 (below_trans b4 b5))) hc5.made).mono ?_; rintro e w6 ⟨rfl, b6⟩)
      | (go_at_call 13; refine (k2 w4 (hu.up (below_trans (below_alloc w _) (below_trans b2 (below_trans b3 b4))))).mono ?_; rintro e w5 ⟨a5, cap5, rfl, hc5, b5⟩)
      | (go_at_call 43; refine (e1 _ _ w3 (hm.up b3) hc3.made).mono ?_; rintro e w4 ⟨rfl, b4⟩)
      | (go_at_call 13; refine (k1 w2 (hv.up (below_trans (below_alloc w _) b2))).mono ?_; rintro e w3 ⟨a3, cap3, rfl, hc3, b3⟩)
      | (go_at_call 17; refine H17.out.mono ?_; rintro e w2 ⟨a2, cap2', rfl, hc2, b2⟩; have hm := hc2.made))
    go_ret
    exact ⟨rfl, below_trans (below_alloc w _) (below_trans b2 (below_trans b3 (below_trans b4 (below_trans b5 b6))))⟩
end Go.Proofs.Ytbmeflildmeecaa
