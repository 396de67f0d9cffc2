/- The document's within (44), Compare (24), Same (26), Next (27); the program's Same (25). -/
import Derived.Test.YtbmeflildmeecaaClRefAsk
namespace Go.Proofs.Ytbmeflildmeecaa
open Go.RowKit Go.Shelf Go.Sort Go.Lib Pk

def wit (a b : List Dt) : Bool := decide (∀ d ∈ a, d.2 ≤ getN b d.1)
theorem wit_iff (a b : List Dt) : (∀ d ∈ a, d.2 ≤ getN b d.1) ↔ ∀ x, getN a x ≤ getN b x := by
  refine ⟨fun h x => ?_, fun h d hd => Nat.le_trans (getN_ge hd) (h d.1)⟩
  rcases Nat.eq_zero_or_pos (getN a x) with g | g
  · omega
  · exact h _ (getN_mem g)
theorem wit_left (a b : List Dt) : decide (norm (a ++ b) = norm b) = wit a b := by
  refine decide_eq_decide.2 (norm_iff.trans (Iff.trans ?_ (wit_iff a b).symm))
  refine ⟨fun h x => ?_, fun h x => ?_⟩
  · have := h x; rw [getN_append] at this; omega
  · have := h x; rw [getN_append]; omega
theorem wit_right (a b : List Dt) : decide (norm (a ++ b) = norm a) = wit b a := by
  refine decide_eq_decide.2 (norm_iff.trans (Iff.trans ?_ (wit_iff b a).symm))
  refine ⟨fun h x => ?_, fun h x => ?_⟩
  · have := h x; rw [getN_append] at this; omega
  · have := h x; rw [getN_append]; omega
theorem cmpV_wit (a b : List Dt) : cmpV a b = pickI (wit a b) (wit b a) := by rw [cmpV_pick, wit_left, wit_right]

set_option maxRecDepth 100000 in
set_option maxHeartbeats 4000000 in
theorem within_any (u v : Value) (c d : List Dt) (hl : c.length < 9223372036854775807) (hl2 : d.length < 9223372036854775807) (w : World) (hu : Clk (Lt w.heap.size) w u c) (hv : Clk (Lt w.heap.size) w v d) :
    Calls Try.prog 44 #[u, v] w fun e w' => e = .returned (.bool (wit c d)) ∧ Below w.heap.size w w' := by
  obtain ⟨a, cap, rfl, hr0⟩ := id hu
  obtain ⟨a2, cap2, rfl, -⟩ := id hv
  have h21 : Hid (∀ W x, Below w.heap.size w W → Calls Try.prog 21 #[.slice a2 d.length cap2, .int .u64 ((x : Nat) : Int)] W fun e w' => e = .returned (.int .u64 (getN d x : Int)) ∧ w' = W) := fun W x h => refGet_any _ d x hl2 W (hv.up h)
  obtain ⟨n, hn⟩ : ∃ n, c.length = n := ⟨_, rfl⟩
  rw [hn] at hl ⊢
  clear hv
  go_enter Try.func44, Try.ntmps44
  go_wp2
  go_loopw [5] (fun x wr => ∃ i : Nat, i ≤ n ∧ x = .int .i64 (i : Int) ∧ (∀ e ∈ c.take i, e.2 ≤ getN d e.1) ∧ Below w.heap.size w wr) (fun x _ => n - (intOf x).toNat)
  case atStart => exact ⟨0, by omega, rfl, by simp, Below.refl _ _⟩
  case round =>
    obtain ⟨i, hi, rfl, hall, hB⟩ := hrel
    rcases Nat.lt_or_ge i n with hlt | hge
    · have hx : c[i]? = some c[i] := List.getElem?_eq_getElem (by omega)
      obtain ⟨x, hxe⟩ : ∃ x, c[i] = x := ⟨_, rfl⟩
      rw [hxe] at hx
      obtain ⟨b, o, rfl, hb, hr⟩ := hr0 (by intro e; rw [e] at hx; simp at hx)
      obtain ⟨r1, r2⟩ := (hr.keep (Kp.ofBelow (G := Lt w.heap.size) hB (fun _ h => h)) hb) i x hx
      have g1 : (0 : Int) ≤ (i : Int) := by omega
      have g2 : (i : Int) < (n : Int) := by omega
      have h21' := h21.out wr.drew x.1 hB.drew
      have hmem : x ∈ c := List.mem_of_getElem? hx
      have htk : c.take (i + 1) = c.take i ++ [x] := by rw [List.take_add_one, hx]; rfl
      obtain ⟨G, hG⟩ : ∃ G, getN d x.1 = G := ⟨_, rfl⟩
      rw [hG] at h21'
      have HC : Hid (getN d x.1 = G) := hG
      clear hG hr hxe hx
      by_cases hgt : G < x.2
      · have hgt' : (G : Int) < (x.2 : Int) := by omega
        have hw : Hid (wit c d = false) := decide_eq_false (fun h => by have := h x hmem; have := HC.out; omega)
        go_wp2_with fail
        go_region_held3 (fun w' => w'.cell? ⟨b, o + i * 2, none⟩ = some (.int .u64 (x.1 : Int)) ∧ w'.cell? ⟨b, o + i * 2 + 1, none⟩ = some (.int .u64 (x.2 : Int))) (go_keep) (first | (go_at_call 21; refine h21'.mono ?_; rintro e w' ⟨rfl, rfl⟩))
        all_goals
          go_wp2
          go_ret
          exact ⟨by rw [hw.out]; rfl, hB.drew⟩
      · have hgt' : ¬ (G : Int) < (x.2 : Int) := by omega
        go_wp2_with fail
        go_region_held3 (fun w' => w'.cell? ⟨b, o + i * 2, none⟩ = some (.int .u64 (x.1 : Int)) ∧ w'.cell? ⟨b, o + i * 2 + 1, none⟩ = some (.int .u64 (x.2 : Int))) (go_keep) (first | (go_at_call 21; refine h21'.mono ?_; rintro e w' ⟨rfl, rfl⟩))
        all_goals
          go_wp2
          go_roundw
          case rel =>
            refine ⟨i + 1, by omega, by simp, fun e he => ?_, hB.drew⟩
            rw [htk] at he
            rcases List.mem_append.1 he with q | q
            · exact hall e q
            · simp at q; rw [q, HC.out]; omega
          case measure => simp; omega
    · obtain rfl : i = n := by omega
      rw [List.take_of_length_le (by omega)] at hall
      have hw : Hid (wit c d = true) := decide_eq_true hall
      go_wp2
      go_ret
      exact ⟨by rw [hw.out]; rfl, hB⟩
set_option maxRecDepth 100000 in
set_option maxHeartbeats 1000000 in
theorem refCompare_any (u v : Value) (c d : List Dt) (hl : c.length < 9223372036854775807) (hl2 : d.length < 9223372036854775807) (w : World) (hu : Clk (Lt w.heap.size) w u c) (hv : Clk (Lt w.heap.size) w v d) :
    Calls Try.prog 24 #[u, v] w fun e w' => e = .returned (.int .i64 (cmpV c d)) ∧ Below w.heap.size w w' := by
  have h1 := within_any u v c d hl hl2 w hu hv
  have h2 := fun W (h : Below w.heap.size w W) => within_any v u d c hl2 hl W (hv.up h) (hu.up h)
  rw [cmpV_wit]
  obtain ⟨a, cap, rfl, -⟩ := id hu
  obtain ⟨a2, cap2, rfl, -⟩ := id hv
  clear hu hv
  generalize wit c d = p at *
  generalize wit d c = q at *
  have H2 : Hid (∀ W, Below w.heap.size w W → Calls Try.prog 44 #[.slice a2 d.length cap2, .slice a c.length cap] W fun e w' => e = .returned (.bool q) ∧ Below W.heap.size W w') := h2
  have H1 : Hid (Calls Try.prog 44 #[.slice a c.length cap, .slice a2 d.length cap2] w fun e w' => e = .returned (.bool p) ∧ Below w.heap.size w w') := h1
  clear h1 h2
  cases p <;> cases q <;>
  · go_enter Try.func24, Try.ntmps24
    go_wp2_with (first
      | (go_at_call 44; refine (H2.out w1 b1).mono ?_; rintro e w2 ⟨rfl, b2⟩)
      | (go_at_call 44; refine H1.out.mono ?_; rintro e w1 ⟨rfl, b1⟩))
    go_ret
    exact ⟨rfl, below_trans b1 b2⟩
set_option maxHeartbeats 1000000 in
theorem refSame_any (u v : Value) (c d : List Dt) (hl : c.length < 9223372036854775807) (hl2 : d.length < 9223372036854775807) (w : World) (hu : Clk (Lt w.heap.size) w u c) (hv : Clk (Lt w.heap.size) w v d) :
    Calls Try.prog 26 #[u, v] w fun e w' => e = .returned (.bool (cmpV c d == 0)) ∧ Below w.heap.size w w' := by
  have h1 := refCompare_any u v c d hl hl2 w hu hv
  obtain ⟨a, cap, rfl, -⟩ := id hu
  obtain ⟨a2, cap2, rfl, -⟩ := id hv
  clear hu hv
  generalize cmpV c d = x at *
  go_enter Try.func26, Try.ntmps26
  go_wp2_with (go_at_call 24; refine h1.mono ?_; rintro e w1 ⟨rfl, b1⟩)
  go_ret
  exact ⟨rfl, b1⟩
set_option maxHeartbeats 1000000 in
theorem sameC_any (u v : Value) (c d : List Dt) (hl : c.length + d.length ≤ 8796093022208) (w : World) (hu : Clk (Lt w.heap.size) w u c) (hv : Clk (Lt w.heap.size) w v d) :
    Calls Try.prog 25 #[u, v] w fun e w' => e = .returned (.bool (cmpV c d == 0)) ∧ Below w.heap.size w w' := by
  have h1 := compare_clk u v c d hl w hu hv
  obtain ⟨a, cap, rfl, -⟩ := id hu
  obtain ⟨a2, cap2, rfl, -⟩ := id hv
  clear hu hv
  generalize cmpV c d = x at *
  go_enter Try.func25, Try.ntmps25
  go_wp2_with (go_at_call 23; refine h1.mono ?_; rintro e w1 ⟨rfl, b1⟩)
  go_ret
  exact ⟨rfl, b1⟩
set_option maxRecDepth 100000 in
set_option maxHeartbeats 1000000 in
theorem refNext_any (v : Value) (c : List Dt) (actor : Nat) (hl : c.length < 9223372036854775807) (hN : getN c actor < 18446744073709551616) (w : World) (hv : Clk (Lt w.heap.size) w v c) :
    Calls Try.prog 27 #[v, .int .u64 (actor : Int)] w fun e w' => e = .returned (dotV (actor, nextN c actor)) ∧ Below w.heap.size w w' := by
  obtain ⟨a, cap, rfl, _⟩ := id hv
  have h12 := refGet_any (.slice a c.length cap) c actor hl (w.alloc (.cells #[.int .u64 0, .int .u64 0] 33)) (hv.up (below_alloc _ _))
  have b0 := holds_new w [.int .u64 0, .int .u64 0] 33
  have c0 := b0.at 0 _ rfl
  have c1 := b0.at 1 _ rfl
  have f0 := b0.frozen 0
  have f1 := b0.frozen 1
  clear hv
  obtain ⟨g, hg⟩ : ∃ g, getN c actor = g := ⟨_, rfl⟩
  unfold nextN
  rw [hg] at h12 hN ⊢
  by_cases hlt : g < 18446744073709551615
  · have hw : IntKind.u64.wrap ((g : Int) + 1) = (g : Int) + 1 := by rw [wrap_u64]; omega
    have hlt' : (g : Int) < (g : Int) + 1 := by omega
    rw [if_pos hlt]
    clear hlt hN
    go_enter Try.func27, Try.ntmps27
    go_wp2_with (go_at_call 21; refine h12.mono ?_; rintro e w1 ⟨rfl, hw1⟩; have hw1 := hw1.symm; subst hw1)
    refine bodyPost_ret (v := dotV (actor, g + 1)) ?_ rfl ⟨rfl, ?_⟩
    · simp [results, Try.f27, go_sem]
    · exact below_alloc w _
  · obtain rfl : g = 18446744073709551615 := by omega
    rw [if_neg hlt]
    clear hlt hN
    go_enter Try.func27, Try.ntmps27
    go_wp2_with (go_at_call 21; refine h12.mono ?_; rintro e w1 ⟨rfl, hw1⟩; have hw1 := hw1.symm; subst hw1)
    refine bodyPost_ret (v := dotV (actor, 18446744073709551615)) ?_ rfl ⟨rfl, ?_⟩
    · simp [results, Try.f27, go_sem]
    · exact below_alloc w _
end Go.Proofs.Ytbmeflildmeecaa
