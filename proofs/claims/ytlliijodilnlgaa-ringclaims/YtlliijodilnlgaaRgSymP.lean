import Derived.Test.YtlliijodilnlgaaRgSym
namespace Go.Proofs.Ytlliijodilnlgaa
open Go.RowKit Go.Sort
def LR (f : Nat → Nat) (a m b : Nat) : Prop := ∀ i j, a ≤ i → i < m → m ≤ j → j < b → f i < f j
/-- What a merge tells. -/
def Merged (t : List Int) (bk N a b : Nat) (f : Nat → Nat) (w w' : World) : Prop := ∃ f', Holds w' bk (rowN N f') 3 ∧ Upd bk w w' ∧ Sm.Sorted (ltT t) f' a b ∧ Sm.PermOn a b f f'
theorem perm_low {a b N : Nat} {f g : Nat → Nat} (p : Sm.PermOn a b f g) (hb : b ≤ N) (h : ∀ k, k < N → f k < N) : ∀ k, k < N → g k < N := fun k hk => by
  by_cases q : a ≤ k ∧ k < b
  · exact p.all (C := fun c => c < N) (fun i _ h2 => h i (by omega)) k q.1 q.2
  · rw [p.out k (by omega)]; exact h k hk
structure Tail (t : List Int) (f f1 : Nat → Nat) (a m b s e mid N : Nat) : Prop where
  same : ¬ (s < m ∧ m < e) → f1 = f
  perm : Sm.PermOn a b f f1
  low : ∀ k, k < N → f1 k < N
  s1 : Sm.Sorted (ltT t) f1 a s
  s2 : Sm.Sorted (ltT t) f1 s mid
  s3 : Sm.Sorted (ltT t) f1 mid e
  s4 : Sm.Sorted (ltT t) f1 e b
  l1 : LR f1 a s mid
  l2 : LR f1 mid e b
  cross : ∀ i j, a ≤ i → i < mid → mid ≤ j → j < b → ltT t (f1 i) (f1 j)
theorem tail_of {t : List Int} {f : Nat → Nat} {a m b s e mid N : Nat} (hl : Sm.Sorted (ltT t) f a m) (hr : Sm.Sorted (ltT t) f m b) (hlr : LR f a m b) (hf : ∀ k, k < N → f k < N) (hbN : b ≤ N) (hc : Sm.Cut (ltT t) f a m b s e) (hmid : mid = s + (e - m)) : Tail t f (Sm.exch s m e f) a m b s e mid N := by
  obtain ⟨g1, g2, g3, g4, g5⟩ := Sm.cut_exch (ltT_ord t) hl hr hc hmid
  have hp : Sm.PermOn a b f (Sm.exch s m e f) := (Sm.exch_perm f s m e hc.sm hc.me).widen hc.as hc.eb
  obtain ⟨c1, c2, c3, c4, _, _⟩ := hc
  have e1 : ∀ k, k < s → Sm.exch s m e f k = f k := fun k hk => by unfold Sm.exch; rw [if_neg (by omega), if_neg (by omega)]
  have e2 : ∀ k, s ≤ k → k < mid → Sm.exch s m e f k = f (k - s + m) := fun k h1 h2 => by unfold Sm.exch; rw [if_pos ⟨h1, by omega⟩]
  have e3 : ∀ k, mid ≤ k → k < e → Sm.exch s m e f k = f (k - (e - m)) := fun k h1 h2 => by unfold Sm.exch; rw [if_neg (by omega), if_pos ⟨by omega, h2⟩]
  have e4 : ∀ k, e ≤ k → Sm.exch s m e f k = f k := fun k hk => by unfold Sm.exch; rw [if_neg (by omega), if_neg (by omega)]
  refine ⟨fun h => ?_, hp, perm_low hp hbN hf, g1, g2, g3, g4, fun i j h1 h2 h3 h4 => ?_, fun i j h1 h2 h3 h4 => ?_, g5⟩
  · by_cases q : s < m
    · obtain rfl : m = e := by omega
      exact Sm.exch_none_right f s m
    · obtain rfl : s = m := by omega
      exact Sm.exch_none_left f s e
  · rw [e1 i h2, e2 j h3 h4]; exact hlr _ _ h1 (by omega) (by omega) (by omega)
  · rw [e3 i h1 h2, e4 j h3]; exact hlr _ _ (by omega) (by omega) (by omega) h4
/-- The first half, where nothing is to be merged. -/
theorem Tail.first {t : List Int} {f f1 : Nat → Nat} {a m b s e mid N : Nat} (h : Tail t f f1 a m b s e mid N) (has : a ≤ s) (hsm : s ≤ mid) (q : ¬ (a < s ∧ s < mid)) : Sm.Sorted (ltT t) f1 a mid := by
  by_cases g : a < s
  · obtain rfl : s = mid := by omega
    exact h.s1
  · obtain rfl : a = s := by omega
    exact h.s2
theorem sorted_ext {t : List Int} {f g : Nat → Nat} {a b : Nat} (h : Sm.Sorted (ltT t) f a b) (e : ∀ k, a ≤ k → k < b → g k = f k) : Sm.Sorted (ltT t) g a b := fun i j h1 h2 h3 => by
  rw [e i h1 (by omega), e j (by omega) h3]; exact h i j h1 h2 h3
theorem Tail.second {t : List Int} {f f1 f2 : Nat → Nat} {a m b s e mid N : Nat} (h : Tail t f f1 a m b s e mid N) (p : Sm.PermOn a mid f1 f2) (hme : mid ≤ e) (heb : e ≤ b) (q : ¬ (mid < e ∧ e < b)) : Sm.Sorted (ltT t) f2 mid b := by
  by_cases g : mid < e
  · obtain rfl : e = b := by omega
    exact sorted_ext h.s3 (fun k h1 _ => p.out k (Or.inr h1))
  · obtain rfl : mid = e := by omega
    exact sorted_ext h.s4 (fun k h1 _ => p.out k (Or.inr h1))
/-- What may be asked of a merge of fewer. -/
def MergeIH (c g : Nat) (t : List Int) (bk N cap d : Nat) : Prop := ∀ (a m b : Nat) (f : Nat → Nat) (w : World), b - a < d → a < m → m < b → b ≤ N → Holds w bk (rowN N f) 3 → By c g N t w → (∀ k, k < N → f k < N) → LR f a m b → Sm.Sorted (ltT t) f a m → Sm.Sorted (ltT t) f m b →
  Calls Try.prog 55 #[.slice (some ⟨bk, 0, none⟩) N cap, .int .i64 (a : Int), .int .i64 (m : Int), .int .i64 (b : Int), .func (.func 36) #[] #[.pointer (some ⟨c, 0, none⟩)]] w fun e w' => e = .returned (.tuple #[]) ∧ Merged t bk N a b f w w'
theorem Tail.fin {t : List Int} {f f1 f2 f3 : Nat → Nat} {a m b s e mid N bk : Nat} {w w' : World} (h : Tail t f f1 a m b s e mid N) (ham : a ≤ mid) (hmb : mid ≤ b) (p : Sm.PermOn a mid f1 f2) (hg : Sm.Sorted (ltT t) f2 a mid) (q : Sm.PermOn mid b f2 f3) (hk : Sm.Sorted (ltT t) f3 mid b) (hh : Holds w' bk (rowN N f3) 3) (hu : Upd bk w w') : Merged t bk N a b f w w' := by
  obtain ⟨r1, r2⟩ := Sm.halves ham hmb h.cross p hg q hk
  exact ⟨f3, hh, hu, r1, h.perm.trans r2⟩
theorem Tail.c1 {c g cap d : Nat} {t : List Int} {f f1 : Nat → Nat} {a m b s e mid N bk : Nat} {w W : World} (ih : MergeIH c g t bk N cap d) (h : Tail t f f1 a m b s e mid N) (hd : mid - a < d) (h1 : a < s) (h2 : s < mid) (h3 : mid ≤ N) (hW : Holds W bk (rowN N f1) 3) (hB : By c g N t w) (hU : Upd bk w W) (hc : c ≠ bk) (hg : g ≠ bk) :
    Calls Try.prog 55 #[.slice (some ⟨bk, 0, none⟩) N cap, .int .i64 (a : Int), .int .i64 (s : Int), .int .i64 (mid : Int), .func (.func 36) #[] #[.pointer (some ⟨c, 0, none⟩)]] W fun e w' => e = .returned (.tuple #[]) ∧ ∃ f2, Holds w' bk (rowN N f2) 3 ∧ Upd bk w w' ∧ Sm.Sorted (ltT t) f2 a mid ∧ Sm.PermOn a mid f1 f2 :=
  (ih a s mid f1 W hd h1 h2 h3 hW (hB.upd hU hc hg) h.low h.l1 h.s1 h.s2).mono fun _ _ ⟨e, f2, q1, q2, q3, q4⟩ => ⟨e, f2, q1, hU.trans q2, q3, q4⟩
theorem Tail.c2 {c g cap d : Nat} {t : List Int} {f f1 f2 : Nat → Nat} {a m b s e mid N bk : Nat} {w W : World} (ih : MergeIH c g t bk N cap d) (h : Tail t f f1 a m b s e mid N) (hd : b - mid < d) (h1 : mid < e) (h2 : e < b) (h3 : b ≤ N) (h4 : a ≤ mid) (p : Sm.PermOn a mid f1 f2) (hs : Sm.Sorted (ltT t) f2 a mid) (hW : Holds W bk (rowN N f2) 3) (hB : By c g N t w) (hU : Upd bk w W) (hc : c ≠ bk) (hg : g ≠ bk) :
    Calls Try.prog 55 #[.slice (some ⟨bk, 0, none⟩) N cap, .int .i64 (mid : Int), .int .i64 (e : Int), .int .i64 (b : Int), .func (.func 36) #[] #[.pointer (some ⟨c, 0, none⟩)]] W fun e w' => e = .returned (.tuple #[]) ∧ Merged t bk N a b f w w' := by
  have hl2 : LR f2 mid e b := fun i j a1 a2 a3 a4 => by
    rw [p.out i (Or.inr a1), p.out j (Or.inr (by omega))]; exact h.l2 i j a1 a2 a3 a4
  refine (ih mid e b f2 W hd h1 h2 h3 hW (hB.upd hU hc hg) (perm_low p (by omega) h.low) hl2 (sorted_ext h.s3 (fun k a1 _ => p.out k (Or.inr a1))) (sorted_ext h.s4 (fun k a1 _ => p.out k (Or.inr (by omega))))).mono fun _ _ ⟨e, f3, q1, q2, q3, q4⟩ => ⟨e, ?_⟩
  exact h.fin h4 (by omega) p hs q4 q3 q1 (hU.trans q2)
theorem rotateN_any (c bk N cap s m e : Nat) (f : Nat → Nat) (w W : World) (h : Holds W bk (rowN N f) 3) (hU : Upd bk w W) (h1 : s < m) (h2 : m < e) (h3 : e ≤ N) (hN : N ≤ 17592186043904) : Calls Try.prog 62 #[.slice (some ⟨bk, 0, none⟩) N cap, .int .i64 (s : Int), .int .i64 (m : Int), .int .i64 (e : Int), .func (.func 36) #[] #[.pointer (some ⟨c, 0, none⟩)]] W fun e' w' => e' = .returned (.tuple #[]) ∧ Holds w' bk (rowN N (Sm.exch s m e f)) 3 ∧ Upd bk w w' :=
  (rotate_any bk N cap s m e (fun k => (f k : Int)) _ W h h1 h2 h3 hN).mono fun _ _ ⟨q1, q2, q3⟩ => ⟨q1, by rw [exch_cast] at q2; exact q2, hU.trans q3⟩
end Go.Proofs.Ytlliijodilnlgaa
