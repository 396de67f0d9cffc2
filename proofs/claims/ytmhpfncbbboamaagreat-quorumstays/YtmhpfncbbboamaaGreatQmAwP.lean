/- The steps of awake (8). -/
import Derived.Test.YtmhpfncbbboamaaGreatQmRep
namespace Go.Proofs.YtmhpfncbbboamaaGreat
open Go.RowKit Go.Maps

theorem Mid.ofBelow {B H : Nat} {w w' : World} (h : Below B w w') (hH : w.heap.size ≤ H) : Mid B H w w' := ⟨h.os, h.tape, h.output, h.size, fun g hg hn => h.block g (by omega)⟩
theorem TyAt.keep {lo hi B : Nat} {rest : List Value} {ty : TypeId} {need prime : Int} {w w' : World} {b : Nat} {l : Ses} (h : TyAt lo hi rest ty need prime w b l) (hb : Below B w w') (hB : hi ≤ B) : TyAt lo hi rest ty need prime w' b l :=
  h.mid (Mid.ofBelow hb (Nat.le_refl _)) (.inl hB)
theorem three64 : ∀ p ∈ threeL, I64 p.1 := by intro p hp; simp [threeL] at hp; rcases hp with rfl | rfl | rfl <;> simp [I64]
def S0 : Ses := [(1, 1, 0), (4, 2, 0), (3, 3, 0)]
theorem seats3 : seats threeL = S0 := by decide
/-- One tally. -/
def AwT (w W : World) (bt : Nat) (S : Ses) : Prop := ∃ n1 h1, w.heap.size ≤ n1 ∧ TyAt n1 h1 [] 30 2 1 W bt S ∧ Below w.heap.size w W
/-- Two. -/
def AwU (w W : World) (bt : Nat) (S : Ses) (bu : Nat) (U : Ses) : Prop := ∃ n1 h1 n2 h2, w.heap.size ≤ n1 ∧ h1 ≤ n2 ∧ TyAt n1 h1 [] 30 2 1 W bt S ∧ TyAt n2 h2 [] 30 2 2 W bu U ∧ Below w.heap.size w W
/-- Two, and a read that has no cell yet. -/
def AwN (w W : World) (bt : Nat) (S : Ses) (bu : Nat) (U : Ses) (br : Nat) (l : Ses) : Prop := ∃ n1 h1 n2 h2 n3 h3, w.heap.size ≤ n1 ∧ h1 ≤ n2 ∧ h2 ≤ n3 ∧ TyAt n1 h1 [] 30 2 1 W bt S ∧ TyAt n2 h2 [] 30 2 2 W bu U ∧ TyAt n3 h3 [.map none] 65 2 1 W br l ∧ Below w.heap.size w W
/-- Two, and a read that got one. -/
def AwR (w W : World) (bt : Nat) (S : Ses) (bu : Nat) (U : Ses) (br : Nat) (l : Ses) (x : Int) : Prop := ∃ n1 h1 n2 h2 n3, w.heap.size ≤ n1 ∧ h1 ≤ n2 ∧ h2 ≤ n3 ∧ TyAt n1 h1 [] 30 2 1 W bt S ∧ TyAt n2 h2 [] 30 2 2 W bu U ∧ (∃ h3 cb, TyAt n3 h3 [.map (some cb)] 65 2 1 W br l ∧ CmAt W cb x ∧ h3 ≤ cb) ∧ Below w.heap.size w W
theorem TyAt.n_le {lo hi : Nat} {rest : List Value} {ty : TypeId} {need prime : Int} {w : World} {b : Nat} {l : Ses} (h : TyAt lo hi rest ty need prime w b l) : lo < hi ∧ hi ≤ w.heap.size := ⟨by have := h.low; omega, h.top⟩
theorem AwT.gr {w W W' : World} {bt : Nat} {S : Ses} (h : AwT w W bt S) (hg : Gr W W') : AwT w W' bt S := by
  obtain ⟨n1, h1, q1, q2, q3⟩ := h
  exact ⟨n1, h1, q1, q2.gr hg, q3.trans (Below.mono hg q3.size)⟩
theorem AwU.gr {w W W' : World} {bt bu : Nat} {S U : Ses} (h : AwU w W bt S bu U) (hg : Gr W W') : AwU w W' bt S bu U := by
  obtain ⟨n1, h1, n2, h2, q1, q2, q3, q4, q5⟩ := h
  exact ⟨n1, h1, n2, h2, q1, q2, q3.gr hg, q4.gr hg, q5.trans (Below.mono hg q5.size)⟩
theorem AwN.gr {w W W' : World} {bt bu br : Nat} {S U l : Ses} (h : AwN w W bt S bu U br l) (hg : Gr W W') : AwN w W' bt S bu U br l := by
  obtain ⟨n1, h1, n2, h2, n3, h3, q1, q2, q3, q4, q5, q6, q7⟩ := h
  exact ⟨n1, h1, n2, h2, n3, h3, q1, q2, q3, q4.gr hg, q5.gr hg, q6.gr hg, q7.trans (Below.mono hg q7.size)⟩
theorem AwR.gr {w W W' : World} {bt bu br : Nat} {S U l : Ses} {x : Int} (h : AwR w W bt S bu U br l x) (hg : Gr W W') : AwR w W' bt S bu U br l x := by
  obtain ⟨n1, h1, n2, h2, n3, q1, q2, q3, q4, q5, ⟨h3, cb, q6, q7, q8⟩, q9⟩ := h
  exact ⟨n1, h1, n2, h2, n3, q1, q2, q3, q4.gr hg, q5.gr hg, ⟨h3, cb, q6.gr hg, q7.gr hg, q8⟩, q9.trans (Below.mono hg q9.size)⟩
/-- What lies below a read's memory stays, and so do both tallies. -/
theorem mid_low {lo hi B : Nat} {w w' : World} (h : Mid lo hi w w') (hB : B ≤ lo) (hl : lo ≤ w.heap.size) : Below B w w' := (h.toBelow hl).mono hB
theorem aw_new {w W : World} {v : Value} (hg : Gr w W) (h : TgAt W.heap.size W v threeL) : Calls Tryz.prog 15 #[v, .int .i64 2, .int .i64 1] W fun e w' => ∃ bt, e = .returned (.pointer (some ⟨bt, 0, none⟩)) ∧ AwT w w' bt S0 := by
  refine (new_any v threeL 2 1 W (by decide) three64 h).mono fun e w' ⟨e1, e2, e3⟩ => ⟨_, e1, W.heap.size, w'.heap.size, hg.size, seats3 ▸ e2, Below.trans hg (e3.mono hg.size)⟩
theorem aw_yes {w W : World} {bt : Nat} {S : Ses} (h : AwT w W bt S) (q : Nat) (x : Int) (hx : I64 x) (cx : W.cell? ⟨q, 0, none⟩ = some (.int .i64 x)) : Calls Tryz.prog 10 #[.pointer (some ⟨bt, 0, none⟩), .slice (some ⟨q, 0, none⟩) 1 1] W fun e w' => e = .returned (.bool (heardB S x)) ∧ AwT w w' bt (sayS 1 S x) := by
  obtain ⟨n1, h1, q1, q2, q3⟩ := h
  have := q2.n_le
  exact (yes_any q2 q 0 1 x hx cx).mono fun e w' ⟨e1, e2, e3⟩ => ⟨e1, n1, h1, q1, e2, q3.trans (mid_low e3 q1 (by omega))⟩
theorem aw_ver {w W : World} {bt : Nat} {S : Ses} (h : AwT w W bt S) : Calls Tryz.prog 9 #[.pointer (some ⟨bt, 0, none⟩)] W fun e w' => e = .returned (.int .i64 (verd 2 1 S : Int)) ∧ AwT w w' bt S := by
  have h0 := h
  obtain ⟨n1, h1, q1, q2, q3⟩ := h
  exact (verdict_any q2).mono fun e w' ⟨e1, e2⟩ => ⟨e1, h0.gr e2⟩
theorem aw_newU {w W : World} {v : Value} {bt : Nat} {S : Ses} (hA : AwT w W bt S) (h : TgAt W.heap.size W v threeL) : Calls Tryz.prog 15 #[v, .int .i64 2, .int .i64 2] W fun e w' => ∃ bu, e = .returned (.pointer (some ⟨bu, 0, none⟩)) ∧ AwU w w' bt S bu S0 := by
  obtain ⟨n1, h1, q1, q2, q3⟩ := hA
  refine (new_any v threeL 2 2 W (by decide) three64 h).mono fun e w' ⟨e1, e2, e3⟩ => ⟨_, e1, n1, h1, W.heap.size, w'.heap.size, q1, q2.n_le.2, q2.keep e3 q2.n_le.2, seats3 ▸ e2, q3.trans (e3.mono q3.size)⟩
theorem aw_no {w W : World} {bt bu : Nat} {S U : Ses} (h : AwU w W bt S bu U) (q : Nat) (x : Int) (hx : I64 x) (cx : W.cell? ⟨q, 0, none⟩ = some (.int .i64 x)) : Calls Tryz.prog 11 #[.pointer (some ⟨bu, 0, none⟩), .slice (some ⟨q, 0, none⟩) 1 1] W fun e w' => e = .returned (.bool (heardB U x)) ∧ AwU w w' bt S bu (sayS 2 U x) := by
  obtain ⟨n1, h1, n2, h2, q1, q2, q3, q4, q5⟩ := h
  have a1 := q3.n_le
  have a2 := q4.n_le
  exact (no_any q4 q 0 1 x hx cx).mono fun e w' ⟨e1, e2, e3⟩ => ⟨e1, n1, h1, n2, h2, q1, q2, q3.mid e3 (.inl q2), e2, q5.trans (mid_low e3 (by omega) (by omega))⟩
theorem aw_newR {w W : World} {v : Value} {bt bu : Nat} {S U : Ses} (hA : AwU w W bt S bu U) (h : TgAt W.heap.size W v threeL) : Calls Tryz.prog 19 #[v, .int .i64 2, .int .i64 1] W fun e w' => ∃ br, e = .returned (.pointer (some ⟨br, 0, none⟩)) ∧ AwN w w' bt S bu U br S0 := by
  obtain ⟨n1, h1, n2, h2, q1, q2, q3, q4, q5⟩ := hA
  refine (newRead_any v threeL 2 1 W (by decide) three64 h).mono fun e w' ⟨br, e1, e2, e3⟩ => ⟨br, e1, n1, h1, n2, h2, W.heap.size, w'.heap.size, q1, q2, q4.n_le.2, q3.keep e3 q3.n_le.2, q4.keep e3 q4.n_le.2, seats3 ▸ e2, q5.trans (e3.mono q5.size)⟩
theorem aw_got {w W : World} {bt bu br : Nat} {S U l : Ses} (h : AwN w W bt S bu U br l) (x : Int) (hx : I64 x) (hh : heardB l x = true) : Calls Tryz.prog 20 #[.pointer (some ⟨br, 0, none⟩), .int .i64 x, E38] W fun e w' => e = .returned (.bool true) ∧ AwR w w' bt S bu U br (sayS 1 l x) x := by
  obtain ⟨n1, h1, n2, h2, n3, h3, q1, q2, q3, q4, q5, q6, q7⟩ := h
  have a1 := q4.n_le
  have a2 := q5.n_le
  have a3 := q6.n_le
  refine (got_first q6 (Below.refl n3 W) x hx hh).mono fun e w' ⟨e1, ⟨⟨hi, cb, r1, r2, r3⟩, r4⟩⟩ => ⟨e1, n1, h1, n2, h2, n3, q1, q2, q3, q4.keep r4 (by omega), q5.keep r4 q3, ⟨hi, cb, r1, r2, r3⟩, q7.trans (r4.mono (by omega))⟩
theorem aw_none {w W : World} {bt bu br : Nat} {S U l : Ses} {x : Int} (h : AwR w W bt S bu U br l x) (y : Int) (hy : I64 y) : Calls Tryz.prog 14 #[.pointer (some ⟨br, 0, none⟩), .int .i64 y] W fun e w' => e = .returned (.bool (heardB l y)) ∧ AwR w w' bt S bu U br (sayS 1 l y) x := by
  obtain ⟨n1, h1, n2, h2, n3, q1, q2, q3, q4, q5, ⟨h3, cb, q6, q7, q8⟩, q9⟩ := h
  have a1 := q4.n_le
  have a2 := q5.n_le
  have a3 := q6.n_le
  exact (none_any q6 y hy).mono fun e w' ⟨e1, e2, e3⟩ => ⟨e1, n1, h1, n2, h2, n3, q1, q2, q3, q4.mid e3 (.inl (by omega)), q5.mid e3 (.inl q3), ⟨h3, cb, e2, q7.same (e3.block cb q7.lt (.inr q8)), q8⟩, q9.trans (mid_low e3 (by omega) (by omega))⟩
theorem aw_rep {w W : World} {bt bu br : Nat} {S U l : Ses} {x y : Int} (h : AwR w W bt S bu U br l x) (hsl : slN l 1 = [x, y]) (hxy : x ≠ y) (hx : I64 x) (hy : I64 y) : Calls Tryz.prog 13 #[.pointer (some ⟨br, 0, none⟩)] W fun e w' => ∃ g cap, e = .returned (.slice (some ⟨g, 0, none⟩) 1 cap) ∧ w'.cell? ⟨g, 0, none⟩ = some (.int .i64 y) ∧ AwR w w' bt S bu U br l x := by
  have h0 := h
  obtain ⟨n1, h1, n2, h2, n3, q1, q2, q3, q4, q5, ⟨h3, cb, q6, q7, q8⟩, q9⟩ := h
  exact (repairs_one (N := n3) (w0 := W) ⟨⟨h3, cb, q6, q7, q8⟩, Below.refl _ _⟩ hsl hxy hx hy).mono fun e w' ⟨g, cap, e1, e2, e3⟩ => ⟨g, cap, e1, e2, h0.gr e3⟩
theorem aw_verT {w W : World} {bt bu br : Nat} {S U l : Ses} {x : Int} (h : AwR w W bt S bu U br l x) : Calls Tryz.prog 9 #[.pointer (some ⟨bt, 0, none⟩)] W fun e w' => e = .returned (.int .i64 (verd 2 1 S : Int)) ∧ Gr W w' ∧ AwR w w' bt S bu U br l x := by
  have h0 := h
  obtain ⟨n1, h1, n2, h2, n3, q1, q2, q3, q4, q5, ⟨h3, cb, q6, q7, q8⟩, q9⟩ := h
  exact (verdict_any q4).mono fun e w' ⟨e1, e2⟩ => ⟨e1, e2, h0.gr e2⟩
theorem aw_verU {w W : World} {bt bu br : Nat} {S U l : Ses} {x : Int} (h : AwR w W bt S bu U br l x) : Calls Tryz.prog 9 #[.pointer (some ⟨bu, 0, none⟩)] W fun e w' => e = .returned (.int .i64 (verd 2 2 U : Int)) ∧ Gr W w' ∧ AwR w w' bt S bu U br l x := by
  have h0 := h
  obtain ⟨n1, h1, n2, h2, n3, q1, q2, q3, q4, q5, ⟨h3, cb, q6, q7, q8⟩, q9⟩ := h
  exact (verdict_any q5).mono fun e w' ⟨e1, e2⟩ => ⟨e1, e2, h0.gr e2⟩
theorem aw_zero (W : World) : Calls Tryz.prog 15 #[.slice none 0 0, .int .i64 0, .int .i64 0] W fun e w' => ∃ b, e = .returned (.pointer (some ⟨b, 0, none⟩)) ∧ TyAt W.heap.size w'.heap.size [] 30 0 0 w' b [] ∧ Gr W w' :=
  (new_any (.slice none 0 0) [] 0 0 W (by decide) (by simp) ⟨none, 0, rfl, .inl rfl⟩).mono fun _ _ ⟨e1, e2, e3⟩ => ⟨_, e1, e2, e3⟩
end Go.Proofs.YtmhpfncbbboamaaGreat
