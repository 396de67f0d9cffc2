/- App, RgMem, RgWalk, RgMid. -/
import Derived.Deep.AppendLies
import Derived.Deep.Upon
import Derived.Deep.AppendSrc
import Derived.Maps.AppendAt
import Derived.OwnWalk
import Derived.Test.YthmnjebmnocoiaaGreatProg
import Derived.BigQuiet
import Derived.Test.YthmnjebmnocoiaaGreatYLaws
import Derived.Test.YthmnjebmnocoiaaGreatYShelf
/- (As for clock.) append of whatever slice (nil, or of no element, too) onto a row that the call owns. -/
namespace Go.Proofs.YthmnjebmnocoiaaGreat

theorem wpList_append_src {P : Program} {w : World} {ops : Array Oper} {rest : List Oper} {o : Oper} {a : Act} {Q : Exit → Act → World → Prop} (hgd : o.guard = none) (s x : Operand) (t : TypeId)
    (ho : o.op = .call { callee := .builtin .append, args := #[s, x], argTypes := #[t, t] })
    (base : Nat) (e : TypeId) (i : TypeInfo) (z : Value) (size bytes : Nat) (ht : P.underlying t = some (.slice e)) (hi : P.info? e = some i) (hz : i.zero = some z)
    (hsize : i.size = size) (hby : i.bytes = bytes) (hzs : z.cells.size = size) (hsz : 0 < size)
    (v : Value) (n : Nat) (xs : List Value) (hown : w.ownsRow base e size v n xs) (hs : a.eval s = v)
    (news : List Value) (ad : Option Addr) (m c : Nat) (hx : a.eval x = .slice ad m c) (hl : news.length = m * size)
    (hnews : 0 < m → ∃ p, ad = some p ∧ ∀ j u, news[j]? = some u → w.cell? (p.add j) = some u) (h1 : ∀ u ∈ news, u.oneCell' = true)
    (h63 : n + m ≤ maxLen) (hbytes : (n + m) * bytes ≤ 140737488355328) (hbase : base ≤ w.heap.size)
    (h : ∀ v' w', w'.ownsRow base e size v' (n + m) (xs ++ news) → w.grownBy w' v.ownBlock → (v'.ownBlock = v.ownBlock ∨ v'.ownBlock = some w.heap.size) → wpList P ops Q rest (a.put o.dst v') w') : wpList P ops Q (o :: rest) a w := by
  cases ad with
  | some p =>
    refine wpList_append_own_at w hgd s x t ho base e i z size bytes ht hi hz hsize hby hzs hsz v n xs hs hown p m c news hx hl ?_ h1 h63 hbytes hbase (fun v' w' a1 a2 _ a4 => h v' w' a1 a2 a4)
    rcases Nat.eq_zero_or_pos m with hm | hm
    · have : news = [] := List.eq_nil_of_length_eq_zero (by rw [hl, hm]; simp)
      subst this
      intro j u hj
      simp at hj
    · obtain ⟨p', e', h'⟩ := hnews hm
      cases e'
      exact h'
  | none =>
    have hm : m = 0 := by
      rcases Nat.eq_zero_or_pos m with hm | hm
      · exact hm
      · obtain ⟨p', e', _⟩ := hnews hm
        cases e'
    subst hm
    have : news = [] := List.eq_nil_of_length_eq_zero (by rw [hl]; simp)
    subst this
    refine wpList_plain hgd fun K hK => ?_
    have hr : (Builtin.append_ #[t, t] o.type #[v, .slice none 0 c]).run P w = .ok v w := by
      obtain ⟨_, ⟨rfl, _⟩ | ⟨g, cap, cur, rfl, _, _, hc, _⟩⟩ := id hown
      · exact run_append_nothing w t t _ e i ht hi none 0 0 (Nat.le_refl _) _ (Src.ofNil w ht c)
      · exact run_append_nothing w t t _ e i ht hi _ _ _ hc _ (Src.ofNil w ht c)
    unfold Oper.wp execOp
    simp only [ho, resolve, invoke, builtin, Sem.run_bind, Sem.run_pure, Result.andThen_ok, List.map_toArray, List.map_cons, List.map_nil, hs, hx, hr]
    exact hK _ _ (h v w (by simpa using hown) (World.grownBy.refl _ _) (.inl rfl))
end Go.Proofs.YthmnjebmnocoiaaGreat

/- Lists of integers in memory; the ring's types. -/
namespace Go.Proofs.YthmnjebmnocoiaaGreat
open Go.RowKit

def intV (l : List Int) : List Value := l.map fun n => Value.int .i64 n
theorem intV_len (l : List Int) : (intV l).length = l.length := by simp [intV]
theorem intV_append (l m : List Int) : intV (l ++ m) = intV l ++ intV m := by simp [intV]
theorem intV_one (l : List Int) : ∀ u ∈ intV l, u.oneCell' = true := fun u hu => by
  simp only [intV, List.mem_map] at hu
  obtain ⟨x, _, rfl⟩ := hu; rfl
theorem intV_at (l : List Int) (i : Nat) (h : i < l.length) : (intV l)[i]? = some (.int .i64 (l.getD i 0)) := by
  simp [intV, h]
def Ints (B : Nat) (w : World) (v : Value) (l : List Int) : Prop :=
  ∃ a cap, v = .slice a l.length cap ∧ l.length ≤ cap ∧ (l.length = 0 ∨ ∃ g o, a = some ⟨g, o, none⟩ ∧ g < B ∧ ∀ j, j < l.length → w.cell? ⟨g, o + j, none⟩ = some (.int .i64 (l.getD j 0)))
theorem Ints.below {B : Nat} {w w' : World} {v : Value} {l : List Int} (h : Ints B w v l) (hb : Below B w w') : Ints B w' v l := by
  obtain ⟨a, cap, e, hcp, hc⟩ := h
  refine ⟨a, cap, e, hcp, ?_⟩
  rcases hc with h0 | ⟨g, o, e1, h1, h2⟩
  · exact Or.inl h0
  · exact Or.inr ⟨g, o, e1, h1, fun j hj => by rw [World.cell?_of_block (w := w) (hb.block g h1)]; exact h2 j hj⟩
theorem Ints.mono {B C : Nat} {w : World} {v : Value} {l : List Int} (h : Ints B w v l) (hb : B ≤ C) : Ints C w v l := by
  obtain ⟨a, cap, e, hcp, hc⟩ := h
  refine ⟨a, cap, e, hcp, ?_⟩
  rcases hc with h0 | ⟨g, o, e1, h1, h2⟩
  · exact Or.inl h0
  · exact Or.inr ⟨g, o, e1, Nat.lt_of_lt_of_le h1 hb, h2⟩
theorem Ints.len {B : Nat} {w : World} {v : Value} {l : List Int} (h : Ints B w v l) : ∃ a cap, v = .slice a l.length cap := by
  obtain ⟨a, cap, e, _⟩ := h
  exact ⟨a, cap, e⟩
theorem ints_of_row {w : World} {base : Nat} {v : Value} {l : List Int} (h : w.ownsRow base 3 1 v l.length (intV l)) : Ints w.heap.size w v l := by
  rcases h.2 with ⟨rfl, h0⟩ | ⟨g, cap, cur, rfl, _, hg, hc, _⟩
  · exact ⟨none, 0, by rw [h0], by omega, Or.inl h0⟩
  · refine ⟨_, cap, rfl, hc, Or.inr ⟨g, 0, rfl, (Array.getElem?_eq_some_iff.1 hg).1, fun j hj => ?_⟩⟩
    rw [Nat.zero_add, h.cellAt j (by omega), intV_at _ _ hj]
theorem row_slice {w : World} {base : Nat} {e : TypeId} {size : Nat} {v : Value} {n : Nat} {xs : List Value} (h : w.ownsRow base e size v n xs) : ∃ a c, v = .slice a n c := by
  rcases h.2 with ⟨rfl, h0⟩ | ⟨g, cap, cur, rfl, _⟩
  · exact ⟨_, _, by rw [h0]⟩
  · exact ⟨_, _, rfl⟩
theorem own3_base {w : World} {base : Nat} {e : TypeId} {size : Nat} {v : Value} {n : Nat} {xs : List Value} (h : w.ownsRow base e size v n xs) (j : Nat) (hj : v.ownBlock = some j) : base ≤ j := (h.lt j hj).1
theorem full3 : (Tryz.prog.info? 3).map (fun i => (i.zero, i.size, i.bytes)) = some (some (.int .i64 0), 1, 8) := by kernel_rfl
theorem inf3 : ∃ i, Tryz.prog.info? 3 = some i ∧ i.zero = some (.int .i64 0) ∧ i.size = 1 ∧ i.bytes = 8 := by
  have := full3
  cases h : Tryz.prog.info? 3 with
  | none => simp [h] at this
  | some i =>
    simp [h] at this
    exact ⟨i, rfl, this.1, this.2.1, this.2.2⟩
theorem und24 : Tryz.prog.underlying 30 = some (.slice 3) := by kernel_rfl
theorem und23 : Tryz.prog.underlying 43 = some (.array 8 3) := by kernel_rfl
theorem und3 : Tryz.prog.underlying 3 = some (.int .i64) := by kernel_rfl
theorem siz3 : (Tryz.prog.info? 3).map (·.size) = some 1 := by kernel_rfl
theorem siz23 : (Tryz.prog.info? 43).map (·.size) = some 8 := by kernel_rfl

theorem contains_any (B : Nat) (w : World) (v : Value) (l : List Int) (x : Int) (h : Ints B w v l) (hl : l.length ≤ 9223372036854775807) :
    Calls Tryz.prog 46 #[v, .int .i64 x] w fun e w' => e = .returned (.bool (l.contains x)) ∧ w' = w := by
  obtain ⟨a, cap, rfl, -, h0 | ⟨g, o, rfl, _, hc⟩⟩ := h
  · have e : l = [] := List.eq_nil_of_length_eq_zero h0
    subst e
    exact Tryz.slices_Contains_int_empty a cap x w
  · have := Tryz.slices_Contains_int g o l.length cap l x w (Nat.le_refl _) hl hc
    rwa [List.take_length] at this
theorem somebody_any (x : Int) (w : World) : Calls Tryz.prog 95 #[.int .i64 x] w fun e w' => e = .returned (.bool (decide (0 < x))) ∧ w' = w := by
  go_enter Tryz.func95, Tryz.ntmps95
  go_wp2
  go_ret
  refine ⟨?_, rfl⟩
  simp
end Go.Proofs.YthmnjebmnocoiaaGreat

/- What package ring's walk answers. -/
namespace Go.Proofs.YthmnjebmnocoiaaGreat
open Go.RowKit

theorem row_base {w : World} {base b : Nat} {e : TypeId} {size : Nat} {v : Value} {n : Nat} {xs : List Value} (h : w.ownsRow base e size v n xs) (hb : b ≤ base) : w.ownsRow b e size v n xs := by
  refine ⟨h.1, ?_⟩
  rcases h.2 with h0 | ⟨g, cap, cur, e1, e2, e3⟩
  · exact Or.inl h0
  · exact Or.inr ⟨g, cap, cur, e1, by omega, e3⟩
end Go.Proofs.YthmnjebmnocoiaaGreat

/- What the ring's texts share. -/
namespace Go.Proofs.YthmnjebmnocoiaaGreat
open Go.RowKit
theorem below_drewN (B : Nat) (w : World) (q : Nat) : Below B w (w.drewN q) := by
  have : ∀ q, Below B w (w.drewN q) := fun q => by
    induction q with
    | zero => exact Below.refl _ _
    | succ q ih => exact ih.trans (Below.drew (Below.refl _ _))
  exact this q
theorem Ints.cell {B : Nat} {w : World} {a : Option Addr} {n cap : Nat} {l : List Int} (h : Ints B w (.slice a n cap) l) (k : Nat) (x : Int) (hx : l[k]? = some x) : ∃ g o, a = some ⟨g, o, none⟩ ∧ w.cell? ⟨g, o + k, none⟩ = some (.int .i64 x) := by
  have hk : k < l.length := (List.getElem?_eq_some_iff.1 hx).1
  obtain ⟨a', cap', e, _, h0 | ⟨g, o, e1, h1, h2⟩⟩ := h
  · omega
  · obtain ⟨rfl, _, _⟩ := Value.slice.inj e
    refine ⟨g, o, e1, ?_⟩
    rw [h2 k hk, List.getD_eq_getElem?_getD, hx]; rfl
theorem foldl_take_succ {α β : Type} (f : β → α → β) (b : β) (l : List α) (k : Nat) (x : α) (h : l[k]? = some x) : (l.take (k + 1)).foldl f b = f ((l.take k).foldl f b) x := by
  rw [List.take_add_one, h, List.foldl_append]; rfl
end Go.Proofs.YthmnjebmnocoiaaGreat
