/- The document's own answers: Get (21), and what hangs on it. -/
import Derived.Test.YtbmeflildmeecaaMerges
namespace Go.Proofs.Ytbmeflildmeecaa
open Go.RowKit Go.Shelf Go.Sort Go.Lib Pk

theorem getN_step {c : List Dt} {k : Nat} {x : Dt} (h : c[k]? = some x) (a : Nat) : getN (c.take (k + 1)) a = if x.1 = a ∧ getN (c.take k) a < x.2 then x.2 else getN (c.take k) a := by
  rw [List.take_add_one, h, Option.toList, getN_append, getN_one]
  by_cases h1 : x.1 = a
  · rw [if_pos h1]
    by_cases h2 : getN (c.take k) a < x.2
    · rw [if_pos ⟨h1, h2⟩]; omega
    · rw [if_neg (fun q => h2 q.2)]; omega
  · rw [if_neg h1, if_neg (fun q => h1 q.1)]; omega
set_option maxRecDepth 100000 in
set_option maxHeartbeats 2000000 in
theorem refGet_any (v : Value) (c : List Dt) (actor : Nat) (hl : c.length < 9223372036854775807) (w : World) (hv : Clk (Lt w.heap.size) w v c) :
    Calls Try.prog 21 #[v, .int .u64 (actor : Int)] w fun e w' => e = .returned (.int .u64 (getN c actor : Int)) ∧ w' = w := by
  obtain ⟨a, cap, rfl, hv'⟩ := id hv
  obtain ⟨n, hn⟩ : ∃ n, c.length = n := ⟨_, rfl⟩
  rw [hn] at hl ⊢
  clear hv
  go_enter Try.func21, Try.ntmps21
  go_wp2
  go_loop [5, 6] (fun g i => ∃ k : Nat, k ≤ n ∧ i = .int .i64 (k : Int) ∧ g = .int .u64 (getN (c.take k) actor : Int)) (fun _ i => n - (intOf i).toNat)
  case atStart => exact ⟨0, by omega, rfl, rfl⟩
  case round =>
    obtain ⟨k, hk, rfl, rfl⟩ := hrel
    rcases Nat.lt_or_ge k n with hlt | hge
    · have hx : c[k]? = some c[k] := List.getElem?_eq_getElem (by omega)
      obtain ⟨x, hxe⟩ : ∃ x, c[k] = x := ⟨_, rfl⟩
      rw [hxe] at hx
      obtain ⟨b, o, rfl, hb, hr⟩ := hv' (by intro e; rw [e] at hx; simp at hx)
      obtain ⟨r1, r2⟩ := hr k x hx
      have hst := getN_step hx actor
      generalize getN (c.take k) actor = G at *
      have g1 : (0 : Int) ≤ (k : Int) := by omega
      have g2 : (k : Int) < (n : Int) := by omega
      clear hr hv' hx
      by_cases h1 : x.1 = actor
      · by_cases h2 : G < x.2
        · rw [if_pos ⟨h1, h2⟩] at hst
          have h2' : (G : Int) < (x.2 : Int) := by omega
          have h1' : ((x.1 : Int) == (actor : Int)) = true := by simp [h1]
          clear h1
          go_wp2
          go_round
          case rel => exact ⟨k + 1, by omega, by simp, by rw [hst]⟩
          case measure => simp; omega
        · rw [if_neg (fun q => h2 q.2)] at hst
          have h2' : ¬ (G : Int) < (x.2 : Int) := by omega
          have h1' : ((x.1 : Int) == (actor : Int)) = true := by simp [h1]
          clear h1
          go_wp2
          go_round
          case rel => exact ⟨k + 1, by omega, by simp, by rw [hst]⟩
          case measure => simp; omega
      · rw [if_neg (fun q => h1 q.1)] at hst
        have h1' : ((x.1 : Int) == (actor : Int)) = false := beq_eq_false_iff_ne.2 (fun e => h1 (by omega))
        go_wp2
        go_round
        case rel => exact ⟨k + 1, by omega, by simp, by rw [hst]⟩
        case measure => simp; omega
    · obtain rfl : k = n := by omega
      rw [List.take_of_length_le (by omega)]
      go_wp2
      go_ret
      exact ⟨rfl, rfl⟩
end Go.Proofs.Ytbmeflildmeecaa
