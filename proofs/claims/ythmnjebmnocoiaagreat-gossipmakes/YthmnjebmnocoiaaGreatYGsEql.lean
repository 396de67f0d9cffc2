/- slices.Equal (28) of members that are the same. -/
import Derived.Deep.QuietTactic
import Derived.BigQuiet
import Derived.Deep.Cut
import Derived.Laws.StructEq
import Derived.Test.YthmnjebmnocoiaaGreatYGsMem
namespace Go.Proofs.YthmnjebmnocoiaaGreat
open Go.RowKit

theorem mbUnd : Tryz.prog.underlying 53 = some (.struct (Tryz.prog.fieldsOf 53)) := by kernel_rfl
theorem mbHeld : Tryz.prog.stoodInHeld 53 = false := by kernel_rfl
theorem mbTypes : (Tryz.prog.fieldsOf 53).toList.map (fun f => (f.type, f.offset, decide (f.name = "_"))) = [(3, 0, false), (3, 1, false), (23, 2, false)] := by kernel_rfl
theorem eql_mb (x1 x2 : Int) (x3 : Nat) (w : World) : (Op.equalIn 10000 53 (.agg #[.int .i64 x1, .int .i64 x2, .int .u64 (x3 : Int)]) (.agg #[.int .i64 x1, .int .i64 x2, .int .u64 (x3 : Int)])).run Tryz.prog w = .ok true w := by
  rw [run_equalIn_agg w 9999 53 _ _ mbUnd mbHeld]
  have h := mbTypes
  cases hf : (Tryz.prog.fieldsOf 53).toList with
  | nil => rw [hf] at h; cases h
  | cons f fs =>
    rw [hf] at h
    simp only [List.map_cons, List.cons.injEq, Prod.mk.injEq, decide_eq_false_iff_not] at h
    cases fs with
    | nil => cases h.2
    | cons g fs =>
      simp only [List.map_cons, List.cons.injEq, Prod.mk.injEq, decide_eq_false_iff_not] at h
      cases fs with
      | nil => cases h.2.2
      | cons k fs =>
        simp only [List.map_cons, List.cons.injEq, Prod.mk.injEq, decide_eq_false_iff_not] at h
        obtain ⟨⟨a1, a2, a3⟩, ⟨b1, b2, b3⟩, ⟨c1, c2, c3⟩, h3⟩ := h
        obtain rfl : fs = [] := by cases fs with | nil => rfl | cons a b => cases h3
        simp [Op.eqFields, go_sem, a1, a2, a3, b1, b2, b3, c1, c2, c3, Tryz.underlying3, Tryz.underlying23]
set_option maxRecDepth 100000 in
set_option maxHeartbeats 4000000 in
theorem equal_same (B1 B2 : Nat) (v1 v2 : Value) (l : List Mb) (w : World) (h1 : Mems B1 w v1 l) (h2 : Mems B2 w v2 l) (hB1 : B1 ≤ w.heap.size) (hB2 : B2 ≤ w.heap.size) : Calls Tryz.prog 47 #[v1, v2] w fun e w' => e = .returned (.bool true) ∧ Below w.heap.size w w' := by
  obtain ⟨a1, q1, rfl⟩ := h1.len
  obtain ⟨a2, q2, rfl⟩ := h2.len
  have hle := h1.le
  have H1 : Hid (Mems B1 w (.slice a1 l.length q1) l) := h1
  have H2 : Hid (Mems B2 w (.slice a2 l.length q2) l) := h2
  obtain ⟨n, hn⟩ : ∃ n, l.length = n := ⟨_, rfl⟩
  have HN : Hid (l.length = n) := hn
  rw [hn] at hle ⊢
  have hle' : (n : Int) ≤ 9223372036854775807 := by unfold maxLen at hle; omega
  clear h1 h2 hn hle
  go_enter Tryz.func47, Tryz.ntmps47
  go_upto_region 4 with fail
  go_loopw [13] (fun ci wr => ∃ i : Nat, ci = .int .i64 (i : Int) ∧ i ≤ n ∧ Hid (Below w.heap.size w wr)) (fun ci _ => n - (intOf ci).toNat)
  case atStart => exact ⟨0, rfl, Nat.zero_le _, Below.refl _ _⟩
  case round =>
    obtain ⟨i, rfl, hi, hB⟩ := hrel
    by_cases hlt : i < n
    · have g1 : (i : Int) < (n : Int) := by omega
      have g0 : (0 : Int) ≤ (i : Int) := by omega
      obtain ⟨⟨m1, m2, m3⟩, hm⟩ : ∃ m, l[i]? = some m := ⟨_, List.getElem?_eq_getElem (by rw [HN.out]; exact hlt)⟩
      obtain ⟨o1, p1, rfl, _, c0, c1, c2⟩ := (H1.out.below (hB.out.mono hB1)).cell i _ hm
      obtain ⟨o2, p2, rfl, _, d0, d1, d2⟩ := (H2.out.below (hB.out.mono hB2)).cell i _ hm
      have heq : ∀ W, (Op.equalIn 10000 53 (.agg #[.int .i64 m1, .int .i64 m2, .int .u64 (m3 : Int)]) (.agg #[.int .i64 m1, .int .i64 m2, .int .u64 (m3 : Int)])).run Tryz.prog W = .ok true W := fun W => eql_mb m1 m2 m3 W
      have HB : Hid (∀ q, Below w.heap.size w (wr.drewN q)) := fun q => hB.out.trans (belowD _ _ _)
      clear hm hB
      go_upto_region 6 with fail
      go_quiet (fail)
      go_wp2
      exact ⟨⟨i + 1, by go_num, by omega, HB.out _⟩, by simp [intOf]; omega⟩
    · have g1 : ¬ (i : Int) < (n : Int) := by omega
      go_wp2
      go_ret
      exact ⟨rfl, hB.out⟩
end Go.Proofs.YthmnjebmnocoiaaGreat
