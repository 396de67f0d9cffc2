/- Two dots held against one another; slices.Equal (43) and the laws' same (18). -/
import Derived.Test.YtbmeflildmeecaaClMerge
import Derived.Laws.StructEq
namespace Go.Proofs.Ytbmeflildmeecaa
open Go.RowKit Go.Shelf Go.Sort Go.Lib
theorem dotUnd : Try.prog.underlying 33 = some (.struct (Try.prog.fieldsOf 33)) := by kernel_rfl
theorem dotHeld : Try.prog.stoodInHeld 33 = false := by kernel_rfl
theorem dotGuard : Try.prog.eqGuardType Try.prog.depth 33 = false := by kernel_rfl
theorem dotTypes : (Try.prog.fieldsOf 33).toList.map (fun f => (f.type, f.offset, decide (f.name = "_"))) = [(24, 0, false), (24, 1, false)] := by kernel_rfl
theorem eql_dot (x y : Dt) (w : World) : (Op.equalIn 10000 33 (dotV x) (dotV y)).run Try.prog w = .ok (decide (x = y)) w := by
  rw [run_equalIn_agg w 9999 33 _ _ dotUnd dotHeld]
  have h := dotTypes
  cases hf : (Try.prog.fieldsOf 33).toList with
  | nil => rw [hf] at h; cases h
  | cons f fs =>
    rw [hf] at h
    simp only [List.map_cons, List.cons.injEq, Prod.mk.injEq, decide_eq_false_iff_not] at h
    cases fs with
    | nil => cases h.2
    | cons g fs =>
      simp only [List.map_cons, List.cons.injEq, Prod.mk.injEq, decide_eq_false_iff_not] at h
      obtain ⟨⟨a1, a2, a3⟩, ⟨b1, b2, b3⟩, h3⟩ := h
      obtain rfl : fs = [] := by cases fs with | nil => rfl | cons a b => cases h3
      have hx : ∀ a b : Nat, ((a : Int) == (b : Int)) = decide (a = b) := fun a b => by
        by_cases e : a = b
        · simp [e]
        · rw [decide_eq_false e]; exact beq_eq_false_iff_ne.2 (fun q => e (by omega))
      obtain ⟨x1, x2⟩ := x
      obtain ⟨y1, y2⟩ := y
      by_cases e1 : x1 = y1 <;> by_cases e2 : x2 = y2 <;> simp [Op.eqFields, go_sem, a1, a2, a3, b1, b2, b3, hx, e1, e2, Try.underlying24]

set_option maxRecDepth 100000 in
set_option maxHeartbeats 2000000 in
/-- slices.Equal -/
theorem equal_any (u v : Value) (l m : List Dt) (hl : l.length < 9223372036854775807) (hm : m.length < 9223372036854775807) (w : World) (hu : Clk (Lt w.heap.size) w u l) (hv : Clk (Lt w.heap.size) w v m) :
    Calls Try.prog 43 #[u, v] w fun e w' => e = .returned (.bool (decide (l = m))) ∧ Below w.heap.size w w' := by
  obtain ⟨a, cap, rfl, hu'⟩ := id hu
  obtain ⟨b, cap2, rfl, hv'⟩ := id hv
  by_cases hne : l.length = m.length
  · have hne' : (l.length : Int) = (m.length : Int) := by omega
    obtain ⟨n, hn⟩ : ∃ n, l.length = n := ⟨_, rfl⟩
    have hmn : m.length = n := by omega
    rw [hn, hmn]
    rw [hn] at hl
    clear hne hne' hu hv
    go_enter Try.func43, Try.ntmps43
    go_wp2
    go_loopw [13] (fun c wr => ∃ k : Nat, k ≤ n ∧ c = .int .i64 (k : Int) ∧ l.take k = m.take k ∧ Below w.heap.size w wr) (fun c _ => n - (intOf c).toNat)
    case atStart => exact ⟨0, by omega, rfl, rfl, Below.refl _ _⟩
    case round =>
      obtain ⟨k, hk, rfl, htk, hB⟩ := hrel
      rcases Nat.lt_or_ge k n with hlt | hge
      · have hx : l[k]? = some l[k] := List.getElem?_eq_getElem (by omega)
        have hy : m[k]? = some m[k] := List.getElem?_eq_getElem (by omega)
        obtain ⟨x, hxe⟩ : ∃ x, l[k] = x := ⟨_, rfl⟩
        obtain ⟨y, hye⟩ : ∃ y, m[k] = y := ⟨_, rfl⟩
        rw [hxe] at hx
        rw [hye] at hy
        obtain ⟨b1, o1, rfl, hb1, hr1⟩ := hu' (by intro e; rw [e] at hx; simp at hx)
        obtain ⟨b2, o2, rfl, hb2, hr2⟩ := hv' (by intro e; rw [e] at hy; simp at hy)
        obtain ⟨r1, r2⟩ := (hr1.keep (Kp.ofBelow (G := Lt w.heap.size) hB (fun k hk => hk)) hb1) k x hx
        obtain ⟨r3, r4⟩ := (hr2.keep (Kp.ofBelow (G := Lt w.heap.size) hB (fun k hk => hk)) hb2) k y hy
        have hguard := dotGuard
        have g1 : (k : Int) < (n : Int) := by omega
        have g2 : (0 : Int) ≤ (k : Int) := by omega
        have hBd := hB.drew
        have hs1 : l.take (k + 1) = l.take k ++ [x] := by rw [List.take_add_one, hx]; rfl
        have hs2 : m.take (k + 1) = m.take k ++ [y] := by rw [List.take_add_one, hy]; rfl
        clear hr1 hr2 hu' hv' hB hxe hye
        by_cases hxy : x = y
        · have he : ∀ w, (Op.equalIn 10000 33 (dotV x) (dotV y)).run Try.prog w = .ok true w := fun w => by rw [eql_dot, decide_eq_true hxy]
          have hs : l.take (k + 1) = m.take (k + 1) := by rw [hs1, hs2, htk, hxy]
          clear hxy hs1 hs2 htk hx hy
          go_wp2_with fail
          go_region_held3 (fun w' => w'.cell? ⟨b1, o1 + k * 2, none⟩ = some (.int .u64 (x.1 : Int)) ∧ w'.cell? ⟨b1, o1 + k * 2 + 1, none⟩ = some (.int .u64 (x.2 : Int)) ∧ w'.cell? ⟨b2, o2 + k * 2, none⟩ = some (.int .u64 (y.1 : Int)) ∧ w'.cell? ⟨b2, o2 + k * 2 + 1, none⟩ = some (.int .u64 (y.2 : Int))) (go_keep) (fail)
          all_goals
            go_wp2
            go_roundw
            case rel => exact ⟨k + 1, by omega, by simp, hs, hBd⟩
            case measure => simp; omega
        · have he : ∀ w, (Op.equalIn 10000 33 (dotV x) (dotV y)).run Try.prog w = .ok false w := fun w => by rw [eql_dot, decide_eq_false hxy]
          have hs : ¬ l = m := fun e => hxy (by rw [e, hy] at hx; exact (Option.some.inj hx).symm)
          have hs' : decide (l = m) = false := decide_eq_false hs
          clear hxy hs1 hs2 htk hx hy hs
          go_wp2_with fail
          go_region_held3 (fun w' => w'.cell? ⟨b1, o1 + k * 2, none⟩ = some (.int .u64 (x.1 : Int)) ∧ w'.cell? ⟨b1, o1 + k * 2 + 1, none⟩ = some (.int .u64 (x.2 : Int)) ∧ w'.cell? ⟨b2, o2 + k * 2, none⟩ = some (.int .u64 (y.1 : Int)) ∧ w'.cell? ⟨b2, o2 + k * 2 + 1, none⟩ = some (.int .u64 (y.2 : Int))) (go_keep) (fail)
          all_goals
            go_wp2
            go_ret
            exact ⟨by rw [hs']; rfl, hBd⟩
      · obtain rfl : k = n := by omega
        have hs : l = m := by rw [List.take_of_length_le (by omega), List.take_of_length_le (by omega)] at htk; exact htk
        go_wp2
        go_ret
        exact ⟨by rw [decide_eq_true hs]; rfl, hB⟩
  · have hne' : ¬ (l.length : Int) = (m.length : Int) := by omega
    rw [decide_eq_false (fun e => hne (by rw [e]))]
    go_enter Try.func43, Try.ntmps43
    go_wp2
    go_ret
    exact ⟨rfl, Below.refl _ _⟩

set_option maxRecDepth 100000 in
set_option maxHeartbeats 2000000 in
/-- same -/
theorem same_any (u v : Value) (l m : List Dt) (hl : l.length < 9223372036854775807) (hm : m.length < 9223372036854775807) (w : World) (hu : Clk (Lt w.heap.size) w u l) (hv : Clk (Lt w.heap.size) w v m) :
    Calls Try.prog 18 #[u, v] w fun e w' => e = .returned (.bool (decide (l = m))) ∧ Below w.heap.size w w' := by
  obtain ⟨a, cap, rfl, hu'⟩ := id hu
  obtain ⟨b, cap2, rfl, hv'⟩ := id hv
  by_cases hne : l.length = m.length
  · have hne' : (l.length : Int) = (m.length : Int) := by omega
    obtain ⟨n, hn⟩ : ∃ n, l.length = n := ⟨_, rfl⟩
    have hmn : m.length = n := by omega
    rw [hn, hmn]
    rw [hn] at hl
    clear hne hne' hu hv
    go_enter Try.func18, Try.ntmps18
    go_wp2
    go_loopw [5] (fun c wr => ∃ k : Nat, k ≤ n ∧ c = .int .i64 (k : Int) ∧ l.take k = m.take k ∧ Below w.heap.size w wr) (fun c _ => n - (intOf c).toNat)
    case atStart => exact ⟨0, by omega, rfl, rfl, Below.refl _ _⟩
    case round =>
      obtain ⟨k, hk, rfl, htk, hB⟩ := hrel
      rcases Nat.lt_or_ge k n with hlt | hge
      · have hx : l[k]? = some l[k] := List.getElem?_eq_getElem (by omega)
        have hy : m[k]? = some m[k] := List.getElem?_eq_getElem (by omega)
        obtain ⟨x, hxe⟩ : ∃ x, l[k] = x := ⟨_, rfl⟩
        obtain ⟨y, hye⟩ : ∃ y, m[k] = y := ⟨_, rfl⟩
        rw [hxe] at hx
        rw [hye] at hy
        obtain ⟨b1, o1, rfl, hb1, hr1⟩ := hu' (by intro e; rw [e] at hx; simp at hx)
        obtain ⟨b2, o2, rfl, hb2, hr2⟩ := hv' (by intro e; rw [e] at hy; simp at hy)
        obtain ⟨r1, r2⟩ := (hr1.keep (Kp.ofBelow (G := Lt w.heap.size) hB (fun k hk => hk)) hb1) k x hx
        obtain ⟨r3, r4⟩ := (hr2.keep (Kp.ofBelow (G := Lt w.heap.size) hB (fun k hk => hk)) hb2) k y hy
        have hguard := dotGuard
        have g1 : (k : Int) < (n : Int) := by omega
        have g2 : (0 : Int) ≤ (k : Int) := by omega
        have hBd := hB.drew
        have hs1 : l.take (k + 1) = l.take k ++ [x] := by rw [List.take_add_one, hx]; rfl
        have hs2 : m.take (k + 1) = m.take k ++ [y] := by rw [List.take_add_one, hy]; rfl
        clear hr1 hr2 hu' hv' hB hxe hye
        by_cases hxy : x = y
        · have he : ∀ w, (Op.equalIn 10000 33 (dotV x) (dotV y)).run Try.prog w = .ok true w := fun w => by rw [eql_dot, decide_eq_true hxy]
          have hs : l.take (k + 1) = m.take (k + 1) := by rw [hs1, hs2, htk, hxy]
          clear hxy hs1 hs2 htk hx hy
          go_wp2_with fail
          go_region_held3 (fun w' => w'.cell? ⟨b1, o1 + k * 2, none⟩ = some (.int .u64 (x.1 : Int)) ∧ w'.cell? ⟨b1, o1 + k * 2 + 1, none⟩ = some (.int .u64 (x.2 : Int)) ∧ w'.cell? ⟨b2, o2 + k * 2, none⟩ = some (.int .u64 (y.1 : Int)) ∧ w'.cell? ⟨b2, o2 + k * 2 + 1, none⟩ = some (.int .u64 (y.2 : Int))) (go_keep) (fail)
          all_goals
            go_wp2
            go_roundw
            case rel => exact ⟨k + 1, by omega, by simp, hs, hBd⟩
            case measure => simp; omega
        · have he : ∀ w, (Op.equalIn 10000 33 (dotV x) (dotV y)).run Try.prog w = .ok false w := fun w => by rw [eql_dot, decide_eq_false hxy]
          have hs : ¬ l = m := fun e => hxy (by rw [e, hy] at hx; exact (Option.some.inj hx).symm)
          have hs' : decide (l = m) = false := decide_eq_false hs
          clear hxy hs1 hs2 htk hx hy hs
          go_wp2_with fail
          go_region_held3 (fun w' => w'.cell? ⟨b1, o1 + k * 2, none⟩ = some (.int .u64 (x.1 : Int)) ∧ w'.cell? ⟨b1, o1 + k * 2 + 1, none⟩ = some (.int .u64 (x.2 : Int)) ∧ w'.cell? ⟨b2, o2 + k * 2, none⟩ = some (.int .u64 (y.1 : Int)) ∧ w'.cell? ⟨b2, o2 + k * 2 + 1, none⟩ = some (.int .u64 (y.2 : Int))) (go_keep) (fail)
          all_goals
            go_wp2
            go_ret
            exact ⟨by rw [hs']; rfl, hBd⟩
      · obtain rfl : k = n := by omega
        have hs : l = m := by rw [List.take_of_length_le (by omega), List.take_of_length_le (by omega)] at htk; exact htk
        go_wp2
        go_ret
        exact ⟨by rw [decide_eq_true hs]; rfl, hB⟩
  · have hne' : ¬ (l.length : Int) = (m.length : Int) := by omega
    rw [decide_eq_false (fun e => hne (by rw [e]))]
    go_enter Try.func18, Try.ntmps18
    go_wp2
    go_ret
    exact ⟨rfl, Below.refl _ _⟩
end Go.Proofs.Ytbmeflildmeecaa
