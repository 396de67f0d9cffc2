/- room (18), place (22), pairOf (20), groupOf (24), has (25). -/
import Derived.Test.YtmdoamkockoipaaNtMem
namespace Go.Proofs.Ytmdoamkockoipaa
open Go.RowKit Go.Maps

theorem row_slice {w : World} {base : Nat} {e : TypeId} {size : Nat} {v : Value} {n : Nat} {xs : List Value} (h : w.ownsRow base e size v n xs) : ∃ a c, v = .slice a n c := by
  obtain ⟨h1, ⟨rfl, rfl⟩ | ⟨g, cap, cur, rfl, _⟩⟩ := h
  · exact ⟨_, _, rfl⟩
  · exact ⟨_, _, rfl⟩
theorem room_any {G : Nat → Prop} {w : World} {b : Nat} {s : Nt} (h : NetAt G w b s) : Calls Try.prog 18 #[.pointer (some ⟨b, 0, none⟩)] w fun e w' => e = .returned (.int .i64 (4096 - (s.l.length : Int))) ∧ w' = w := by
  obtain ⟨_, _, hr, v, mv, hH, hR, _, _⟩ := h
  have c0 := hH.at 0 _ rfl
  obtain ⟨a, c, rfl⟩ := row_slice hR
  clear hR hH
  generalize s.l.length = n at *
  go_enter Try.func18, Try.ntmps18
  go_wp2
  go_ret
  exact ⟨rfl, rfl⟩
theorem place_any (p : Int) (n : Nat) (hn : 0 < n) (hn2 : n ≤ 4096) (hp : okI p) (w : World) : Calls Try.prog 22 #[.int .i64 p, .int .i64 (n : Int)] w fun e w' => e = .returned (.int .i64 ((placeN p n : Nat) : Int)) ∧ w' = w := by
  rw [placeN_int hn]
  obtain ⟨h1, h2⟩ := (okI_iff p).1 hp
  by_cases hlt : p < 0
  · have e1 : placeI p n = -((p + 1).tmod (n : Int)) := by
      unfold placeI
      rw [if_pos hlt, ← Int.neg_tmod, Int.tmod_eq_emod_of_nonneg (by omega)]
    rw [e1]
    clear e1
    go_enter Try.func22, Try.ntmps22
    go_wp2
    go_ret
    exact ⟨rfl, rfl⟩
  · have e1 : placeI p n = p % (n : Int) := by
      unfold placeI
      rw [if_neg hlt]
    rw [e1]
    clear e1
    go_enter Try.func22, Try.ntmps22
    go_wp2
    go_ret
    exact ⟨rfl, rfl⟩
theorem und54 : Try.prog.underlying 54 = some (.array 2 3) := by kernel_rfl
theorem size54 : (Try.prog.info? 54).map (·.size) = some 2 := by kernel_rfl
theorem pairOf_any (a b : Int) (w : World) : Calls Try.prog 20 #[.int .i64 a, .int .i64 b] w fun e w' => e = .returned (pairV (pairI a b)) ∧ w' = w.alloc (.cells #[.int .i64 (pairI a b).1, .int .i64 (pairI a b).2] 54) := by
  obtain ⟨N, hN⟩ : ∃ N, w.heap.size = N := ⟨_, rfl⟩
  rcases Int.lt_trichotomy a b with h | h | h
  · have e : pairI a b = (a, b) := if_pos (by omega)
    rw [e]
    clear e
    go_enter Try.func20, Try.ntmps20
    go_wp2
    exact bodyPost_ret (results_cell_row (p := 4) (by kernel_rfl) _ _ N 54 #[.int .i64 a, .int .i64 b] (0, 0) _ (by rw [← hN]; rfl) (by rw [← hN]; exact heap_alloc_new w _) und54 rfl size54) rfl ⟨rfl, rfl⟩
  · subst h
    have e : pairI a a = (a, a) := if_pos (by omega)
    rw [e]
    clear e
    go_enter Try.func20, Try.ntmps20
    go_wp2
    exact bodyPost_ret (results_cell_row (p := 4) (by kernel_rfl) _ _ N 54 #[.int .i64 a, .int .i64 a] (0, 0) _ (by rw [← hN]; rfl) (by rw [← hN]; exact heap_alloc_new w _) und54 rfl size54) rfl ⟨rfl, rfl⟩
  · have e : pairI a b = (b, a) := if_neg (by omega)
    rw [e]
    clear e
    go_enter Try.func20, Try.ntmps20
    go_wp2
    exact bodyPost_ret (results_cell_row (p := 4) (by kernel_rfl) _ _ N 54 #[.int .i64 b, .int .i64 a] (0, 0) _ (by rw [← hN]; rfl) (by rw [← hN]; exact heap_alloc_new w _) und54 rfl size54) rfl ⟨rfl, rfl⟩
def zeroB (L : List Lit) : Bool := (L.length : Int) == 0
noncomputable def inB (kl : Lit) (L : List Lit) : Bool := decide (kl ∈ L)
theorem has_any {w : World} {mb : Nat} {L : List Lit} (h : SetAt 3 w mb L) (a : Int) (ha : okI a) : Calls Try.prog 25 #[.map (some mb), .int .i64 a] w fun e w' => e = .returned (.bool (inB (.int .i64 a) L || zeroB L)) ∧ Below w.heap.size w w' := by
  have hl := h.look law3 und61 (key_int ha)
  rw [show decide (Lit.int .i64 a ∈ L) = inB (.int .i64 a) L from rfl] at hl
  have hle : ∀ ty, (Builtin.len_ #[61] ty #[.map (some mb)]).run Try.prog (w.alloc (.cells #[] 53)) = .ok (.int .i64 (L.length : Int)) (w.alloc (.cells #[] 53)) := fun ty => (h.same (w' := w.alloc (.cells #[] 53)) (by rw [((Below.refl _ _).alloc (Nat.le_refl _) _).block mb h.lt])).len und61 ty
  clear h
  cases hb : inB (.int .i64 a) L with
  | true =>
    rw [hb] at hl
    go_enter Try.func25, Try.ntmps25
    go_wp2
    go_ret
    exact ⟨rfl, (Below.refl _ _).alloc (Nat.le_refl _) _⟩
  | false =>
    rw [hb] at hl
    have e : (false || zeroB L) = ((L.length : Int) == 0) := rfl
    rw [e]
    clear e hb
    generalize (L.length : Int) = n at *
    go_enter Try.func25, Try.ntmps25
    go_wp2
    go_ret
    exact ⟨rfl, (Below.refl _ _).alloc (Nat.le_refl _) _⟩
/-- Integers in memory. -/
def IntsAt (w : World) (v : Value) (q : List Int) : Prop :=
  ∃ a cap, v = .slice a q.length cap ∧ (q.length = 0 ∨ ∃ g o, a = some ⟨g, o, none⟩ ∧ g < w.heap.size ∧ ∀ i x, q[i]? = some x → w.cell? ⟨g, o + i, none⟩ = some (.int .i64 x))
theorem IntsAt.below {w w' : World} {v : Value} {q : List Int} (h : IntsAt w v q) (hb : Below w.heap.size w w') : IntsAt w' v q := by
  obtain ⟨a, cap, rfl, h0 | ⟨g, o, rfl, hg, hc⟩⟩ := h
  · exact ⟨a, cap, rfl, .inl h0⟩
  · exact ⟨_, cap, rfl, .inr ⟨g, o, rfl, Nat.lt_of_lt_of_le hg hb.size, fun i x hi => by rw [World.cell?_of_block (w := w) (hb.block g hg)]; exact hc i x hi⟩⟩
theorem ints_nil (w : World) : IntsAt w (.slice none 0 0) [] := ⟨none, 0, rfl, .inl rfl⟩
theorem ints_one (w : World) (x : Int) : IntsAt (w.alloc (.cells #[.int .i64 x] 3)) (.slice (some ⟨w.heap.size, 0, none⟩) 1 1) [x] :=
  ⟨_, _, rfl, .inr ⟨_, _, rfl, by simp, fun i y hi => by
    cases i with
    | zero =>
      simp at hi
      subst hi
      exact (holds_new w [.int .i64 x] 3).at 0 _ rfl
    | succ i => simp at hi⟩⟩
/-- The keys of a list of nodes. -/
noncomputable def grpL : List Int → List Lit
  | [] => []
  | a :: r => addK (.int .i64 a) (grpL r)
noncomputable def grpR (q : List Int) : List Lit := grpL q.reverse
theorem grpR_snoc (q : List Int) (a : Int) : grpR (q ++ [a]) = addK (.int .i64 a) (grpR q) := by simp [grpR, grpL]
theorem grpL_mem : ∀ (q : List Int) (a : Int), Lit.int .i64 a ∈ grpL q ↔ a ∈ q
  | [], a => by simp [grpL]
  | x :: q, a => by
    rw [grpL, mem_addK, grpL_mem q a, List.mem_cons]
    simp [or_comm]
theorem grpR_mem (q : List Int) (a : Int) : Lit.int .i64 a ∈ grpR q ↔ a ∈ q := by rw [grpR, grpL_mem]; simp
theorem grpL_len : ∀ (q : List Int), (grpL q).length ≤ q.length
  | [] => Nat.le_refl _
  | x :: q => by
    have := grpL_len q
    unfold grpL addK
    split
    · simp; omega
    · simp; omega
theorem grpR_len (q : List Int) : (grpR q).length ≤ q.length := by have := grpL_len q.reverse; simpa [grpR] using this
theorem addK_pos (kl : Lit) (L : List Lit) : 0 < (addK kl L).length := by
  have : kl ∈ addK kl L := mem_addK.2 (.inr rfl)
  exact List.length_pos_of_mem this
theorem ask_eq (q : List Int) (a : Int) : (inB (.int .i64 a) (grpR q) || zeroB (grpR q)) = askB q a := by
  unfold askB inB zeroB
  have e1 : decide (Lit.int .i64 a ∈ grpR q) = decide (a ∈ q) := decide_eq_decide.2 (grpR_mem q a)
  rw [e1]
  congr 1
  rcases List.eq_nil_or_concat q with rfl | ⟨q', x, rfl⟩
  · rfl
  · rw [List.concat_eq_append, grpR_snoc]
    have := addK_pos (.int .i64 x) (grpR q')
    have e2 : (q' ++ [x]).isEmpty = false := by simp
    rw [e2]
    exact beq_eq_false_iff_ne.2 (by omega)
end Go.Proofs.Ytmdoamkockoipaa
