/- App, RgPure, RgMem, RgWalk, RgMid. -/
import Derived.Deep.AppendLies
import Derived.Deep.Upon
import Derived.Deep.AppendSrc
import Derived.Maps.AppendAt
import Derived.OwnWalk
import Derived.Test.YthmnjebmnocoiaaGreatProg
import Derived.BigQuiet
import Derived.Test.YthmnjebmnocoiaaGreatZLaws
import Derived.Test.YthmnjebmnocoiaaGreatZShelf
/- (As for clock.) append of whatever slice (nil, or of no element, too) onto a row that the call owns. -/
namespace Go.Proofs.YthmnjebmnocoiaaGreat

theorem wpList_append_src {P : Program} {w : World} {ops : Array Oper} {rest : List Oper} {o : Oper} {a : Act} {Q : Exit → Act → World → Prop} (hgd : o.guard = none) (s x : Operand) (t : TypeId)
    (ho : o.op = .call { callee := .builtin .append, args := #[s, x], argTypes := #[t, t] })
    (base : Nat) (e : TypeId) (i : TypeInfo) (z : Value) (size bytes : Nat) (ht : P.underlying t = some (.slice e)) (hi : P.info? e = some i) (hz : i.zero = some z)
    (hsize : i.size = size) (hby : i.bytes = bytes) (hzs : z.cells.size = size) (hsz : 0 < size)
    (v : Value) (n : Nat) (xs : List Value) (hown : w.ownsRow base e size v n xs) (hs : a.eval s = v)
    (news : List Value) (ad : Option Addr) (m c : Nat) (hx : a.eval x = .slice ad m c) (hl : news.length = m * size)
    (hnews : 0 < m → ∃ p, ad = some p ∧ ∀ j u, news[j]? = some u → w.cell? (p.add j) = some u) (h1 : ∀ u ∈ news, u.oneCell' = true)
    (h63 : n + m ≤ maxLen) (hbytes : (n + m) * bytes ≤ 140737488355328) (hbase : base ≤ w.heap.size)
    (h : ∀ v' w', w'.ownsRow base e size v' (n + m) (xs ++ news) → w.grownBy w' v.ownBlock → (v'.ownBlock = v.ownBlock ∨ v'.ownBlock = some w.heap.size) → wpList P ops Q rest (a.put o.dst v') w') : wpList P ops Q (o :: rest) a w := by
  cases ad with
  | some p =>
    refine wpList_append_own_at w hgd s x t ho base e i z size bytes ht hi hz hsize hby hzs hsz v n xs hs hown p m c news hx hl ?_ h1 h63 hbytes hbase (fun v' w' a1 a2 _ a4 => h v' w' a1 a2 a4)
    rcases Nat.eq_zero_or_pos m with hm | hm
    · have : news = [] := List.eq_nil_of_length_eq_zero (by rw [hl, hm]; simp)
      subst this
      intro j u hj
      simp at hj
    · obtain ⟨p', e', h'⟩ := hnews hm
      cases e'
      exact h'
  | none =>
    have hm : m = 0 := by
      rcases Nat.eq_zero_or_pos m with hm | hm
      · exact hm
      · obtain ⟨p', e', _⟩ := hnews hm
        cases e'
    subst hm
    have : news = [] := List.eq_nil_of_length_eq_zero (by rw [hl]; simp)
    subst this
    refine wpList_plain hgd fun K hK => ?_
    have hr : (Builtin.append_ #[t, t] o.type #[v, .slice none 0 c]).run P w = .ok v w := by
      obtain ⟨_, ⟨rfl, _⟩ | ⟨g, cap, cur, rfl, _, _, hc, _⟩⟩ := id hown
      · exact run_append_nothing w t t _ e i ht hi none 0 0 (Nat.le_refl _) _ (Src.ofNil w ht c)
      · exact run_append_nothing w t t _ e i ht hi _ _ _ hc _ (Src.ofNil w ht c)
    unfold Oper.wp execOp
    simp only [ho, resolve, invoke, builtin, Sem.run_bind, Sem.run_pure, Result.andThen_ok, List.map_toArray, List.map_cons, List.map_nil, hs, hx, hr]
    exact hK _ _ (h v w (by simpa using hown) (World.grownBy.refl _ _) (.inl rfl))
end Go.Proofs.YthmnjebmnocoiaaGreat

/- The ring's asking, in plain words: the walk, the primaries, who is asked. -/
namespace Go.Proofs.YthmnjebmnocoiaaGreat

/-- one owner more on a walk: somebody, and once. -/
def addN (l : List Int) (x : Int) : List Int := if 0 < x ∧ l.contains x = false then l ++ [x] else l
/-- the first i steps of a walk from s. -/
def walkUp (o : List Int) (s : Nat) : Nat → List Int
  | 0 => []
  | i + 1 => addN (walkUp o s i) (o.getD ((s + i) % 8) 0)
def startOf (p : Int) : Nat := (max p 0 % 8).toNat
def walkL (o : List Int) (p : Int) : List Int := walkUp o (startOf p) 8
def cutN (n : Int) (l : List Int) : Nat := (min (max n 0) (l.length : Int)).toNat
def primL (o : List Int) (p n : Int) : List Int := (walkL o p).take (cutN n (walkL o p))
def restL (o : List Int) (p n : Int) : List Int := (walkL o p).drop (cutN n (walkL o p))
def amongL (l up : List Int) : List Int := l.filter fun x => up.contains x
def slop (up : List Int) : List Int → List Int → List (Int × Int)
  | [], _ => []
  | x :: xs, ot => if up.contains x then (x, x) :: slop up xs ot else match ot with
    | [] => slop up xs []
    | y :: ys => (y, x) :: slop up xs ys
def sloppyL (o : List Int) (p n : Int) (up : List Int) : List (Int × Int) := slop up (primL o p n) (amongL (restL o p n) up)

theorem addN_nodup {l : List Int} (h : l.Nodup) (x : Int) : (addN l x).Nodup := by
  unfold addN
  split
  · rename_i g
    rw [List.nodup_append]
    refine ⟨h, by simp, ?_⟩
    intro a ha b hb
    simp at hb; subst hb
    intro e; subst e
    have := g.2
    simp at this
    exact this ha
  · exact h
theorem walkUp_nodup (o : List Int) (s : Nat) : ∀ i, (walkUp o s i).Nodup
  | 0 => by simp [walkUp]
  | i + 1 => addN_nodup (walkUp_nodup o s i) _
theorem addN_len (l : List Int) (x : Int) : (addN l x).length ≤ l.length + 1 := by
  unfold addN; split <;> simp
theorem walkUp_len (o : List Int) (s : Nat) : ∀ i, (walkUp o s i).length ≤ i
  | 0 => by simp [walkUp]
  | i + 1 => by have := addN_len (walkUp o s i) (o.getD ((s + i) % 8) 0); have := walkUp_len o s i; simp only [walkUp]; omega
theorem walkL_len (o : List Int) (p : Int) : (walkL o p).length ≤ 8 := walkUp_len _ _ _
theorem cutN_le (n : Int) (l : List Int) : cutN n l ≤ l.length := by unfold cutN; omega
theorem primL_len (o : List Int) (p n : Int) : (primL o p n).length = cutN n (walkL o p) := by
  unfold primL; rw [List.length_take]; have := cutN_le n (walkL o p); omega
theorem primL_all (o : List Int) (p : Int) : primL o p 8 = walkL o p := by
  have h : cutN 8 (walkL o p) = (walkL o p).length := by have := walkL_len o p; unfold cutN; omega
  unfold primL; rw [h, List.take_length]
theorem prim_rest (o : List Int) (p n : Int) : primL o p n ++ restL o p n = walkL o p := List.take_append_drop _ _

theorem slop_mem (up : List Int) : ∀ (f ot : List Int) (e : Int × Int), e ∈ slop up f ot → (e.1 = e.2 ∧ e.2 ∈ f ∧ e.1 ∈ up) ∨ (e.1 ∈ ot ∧ e.2 ∈ f)
  | [], _, e, h => by simp [slop] at h
  | x :: xs, ot, e, h => by
    unfold slop at h
    split at h
    · rename_i g
      simp only [List.mem_cons] at h
      rcases h with rfl | h
      · exact Or.inl ⟨rfl, by simp, by simpa using g⟩
      · rcases slop_mem up xs ot e h with q | q
        · exact Or.inl ⟨q.1, by simp [q.2.1], q.2.2⟩
        · exact Or.inr ⟨q.1, by simp [q.2]⟩
    · cases ot with
      | nil =>
        rcases slop_mem up xs [] e h with q | q
        · exact Or.inl ⟨q.1, by simp [q.2.1], q.2.2⟩
        · exact Or.inr ⟨q.1, by simp [q.2]⟩
      | cons y ys =>
        simp only [List.mem_cons] at h
        rcases h with rfl | h
        · exact Or.inr ⟨by simp, by simp⟩
        · rcases slop_mem up xs ys e h with q | q
          · exact Or.inl ⟨q.1, by simp [q.2.1], q.2.2⟩
          · exact Or.inr ⟨by simp [q.1], by simp [q.2]⟩
theorem slop_fst (up : List Int) : ∀ (f ot : List Int), (f ++ ot).Nodup → ((slop up f ot).map Prod.fst).Nodup
  | [], _, _ => by simp [slop]
  | x :: xs, ot, h => by
    have hx : x ∉ xs ++ ot := (List.nodup_cons.mp h).1
    have ht : (xs ++ ot).Nodup := (List.nodup_cons.mp h).2
    unfold slop
    split
    · rw [List.map_cons, List.nodup_cons]
      refine ⟨?_, slop_fst up xs ot ht⟩
      intro hm
      obtain ⟨e, he, hx'⟩ := List.mem_map.mp hm
      apply hx
      rw [List.mem_append]
      rcases slop_mem up xs ot e he with q | q
      · left; simp at hx'; rw [← hx', q.1]; exact q.2.1
      · right; simp at hx'; rw [← hx']; exact q.1
    · cases ot with
      | nil => exact slop_fst up xs [] ht
      | cons y ys =>
        have hy : y ∉ xs ++ ys ∧ (xs ++ ys).Nodup := by
          have := List.perm_middle.nodup_iff.mp ht
          exact List.nodup_cons.mp this
        show (((y, x) :: slop up xs ys).map Prod.fst).Nodup
        rw [List.map_cons, List.nodup_cons]
        refine ⟨?_, slop_fst up xs ys hy.2⟩
        intro hm
        obtain ⟨e, he, hx'⟩ := List.mem_map.mp hm
        apply hy.1
        rw [List.mem_append]
        rcases slop_mem up xs ys e he with q | q
        · left; simp at hx'; rw [← hx', q.1]; exact q.2.1
        · right; simp at hx'; rw [← hx']; exact q.1
theorem slop_snd (up : List Int) : ∀ (f ot : List Int), f.Nodup → ((slop up f ot).map Prod.snd).Nodup
  | [], _, _ => by simp [slop]
  | x :: xs, ot, h => by
    obtain ⟨hx, ht⟩ := List.nodup_cons.mp h
    have hn : ∀ ot', x ∉ (slop up xs ot').map Prod.snd := fun ot' hm => by
      obtain ⟨e, he, hx'⟩ := List.mem_map.mp hm
      apply hx
      rcases slop_mem up xs ot' e he with q | q
      · rw [← hx']; exact q.2.1
      · rw [← hx']; exact q.2
    unfold slop
    split
    · rw [List.map_cons, List.nodup_cons]; exact ⟨hn ot, slop_snd up xs ot ht⟩
    · cases ot with
      | nil => exact slop_snd up xs [] ht
      | cons y ys =>
        show (((y, x) :: slop up xs ys).map Prod.snd).Nodup
        rw [List.map_cons, List.nodup_cons]; exact ⟨hn ys, slop_snd up xs ys ht⟩
theorem slop_len (up : List Int) : ∀ (f ot : List Int), (slop up f ot).length = min f.length (f.countP (up.contains ·) + ot.length)
  | [], _ => by simp [slop]
  | x :: xs, ot => by
    have hle : xs.countP (up.contains ·) ≤ xs.length := List.countP_le_length
    unfold slop
    split
    · rename_i g
      rw [List.length_cons, slop_len up xs ot, List.length_cons, List.countP_cons_of_pos (p := (up.contains ·)) g]; omega
    · rename_i g
      cases ot with
      | nil => 
        have := slop_len up xs []
        rw [show (match ([] : List Int) with | [] => slop up xs [] | y :: ys => (y, x) :: slop up xs ys) = slop up xs [] from rfl, this, List.length_cons, List.countP_cons_of_neg (p := (up.contains ·)) g]
        simp only [List.length_nil]; omega
      | cons y ys =>
        have := slop_len up xs ys
        rw [show (match (y :: ys : List Int) with | [] => slop up xs [] | y :: ys => (y, x) :: slop up xs ys) = (y, x) :: slop up xs ys from rfl, List.length_cons, this, List.length_cons, List.length_cons, List.countP_cons_of_neg (p := (up.contains ·)) g]
        omega

/-- P11.4, of those that are asked: so many; each up, for a primary, itself just where it is a primary; unlike. -/
theorem sloppy_facts (o : List Int) (p n : Int) (up : List Int) :
    (sloppyL o p n up).length = min (primL o p n).length ((walkL o p).countP (up.contains ·)) ∧
    (∀ e ∈ sloppyL o p n up, up.contains e.1 = true ∧ (primL o p n).contains e.2 = true ∧ (primL o p n).contains e.1 = decide (e.1 = e.2)) ∧
    ((sloppyL o p n up).map Prod.fst).Nodup ∧ ((sloppyL o p n up).map Prod.snd).Nodup := by
  have hn : (primL o p n ++ restL o p n).Nodup := by rw [prim_rest]; exact walkUp_nodup _ _ _
  obtain ⟨h1, h2, h3⟩ := List.nodup_append.mp hn
  have hf : (primL o p n ++ amongL (restL o p n) up).Nodup := by
    rw [List.nodup_append]
    exact ⟨h1, h2.filter _, fun a ha b hb => h3 a ha b (List.mem_filter.mp hb).1⟩
  refine ⟨?_, ?_, slop_fst up _ _ hf, slop_snd up _ _ h1⟩
  · unfold sloppyL
    rw [slop_len, ← prim_rest o p n, List.countP_append, show (amongL (restL o p n) up).length = (restL o p n).countP (up.contains ·) by unfold amongL; rw [List.countP_eq_length_filter]]
  · intro e he
    rcases slop_mem up _ _ e he with ⟨q1, q2, q3⟩ | ⟨q1, q2⟩
    · refine ⟨by simpa using q3, by simpa using q2, ?_⟩
      rw [q1]; simp [q2]
    · have hm := List.mem_filter.mp q1
      have hne : e.1 ≠ e.2 := fun h => h3 _ q2 _ hm.1 h.symm
      refine ⟨hm.2, by simpa using q2, ?_⟩
      have hni : e.1 ∉ primL o p n := fun h => h3 _ h _ hm.1 rfl
      simp [hni, hne]
end Go.Proofs.YthmnjebmnocoiaaGreat

/- Lists of integers in memory; the ring's types. -/
namespace Go.Proofs.YthmnjebmnocoiaaGreat
open Go.RowKit

def intV (l : List Int) : List Value := l.map fun n => Value.int .i64 n
theorem intV_len (l : List Int) : (intV l).length = l.length := by simp [intV]
theorem intV_append (l m : List Int) : intV (l ++ m) = intV l ++ intV m := by simp [intV]
theorem intV_one (l : List Int) : ∀ u ∈ intV l, u.oneCell' = true := fun u hu => by
  simp only [intV, List.mem_map] at hu
  obtain ⟨x, _, rfl⟩ := hu; rfl
theorem intV_at (l : List Int) (i : Nat) (h : i < l.length) : (intV l)[i]? = some (.int .i64 (l.getD i 0)) := by
  simp [intV, h]
/-- A list of integers in memory, in a block below B. -/
def Ints (B : Nat) (w : World) (v : Value) (l : List Int) : Prop :=
  ∃ a cap, v = .slice a l.length cap ∧ l.length ≤ cap ∧ (l.length = 0 ∨ ∃ g o, a = some ⟨g, o, none⟩ ∧ g < B ∧ ∀ j, j < l.length → w.cell? ⟨g, o + j, none⟩ = some (.int .i64 (l.getD j 0)))
theorem Ints.below {B : Nat} {w w' : World} {v : Value} {l : List Int} (h : Ints B w v l) (hb : Below B w w') : Ints B w' v l := by
  obtain ⟨a, cap, e, hcp, hc⟩ := h
  refine ⟨a, cap, e, hcp, ?_⟩
  rcases hc with h0 | ⟨g, o, e1, h1, h2⟩
  · exact Or.inl h0
  · exact Or.inr ⟨g, o, e1, h1, fun j hj => by rw [World.cell?_of_block (w := w) (hb.block g h1)]; exact h2 j hj⟩
theorem Ints.mono {B C : Nat} {w : World} {v : Value} {l : List Int} (h : Ints B w v l) (hb : B ≤ C) : Ints C w v l := by
  obtain ⟨a, cap, e, hcp, hc⟩ := h
  refine ⟨a, cap, e, hcp, ?_⟩
  rcases hc with h0 | ⟨g, o, e1, h1, h2⟩
  · exact Or.inl h0
  · exact Or.inr ⟨g, o, e1, Nat.lt_of_lt_of_le h1 hb, h2⟩
theorem Ints.len {B : Nat} {w : World} {v : Value} {l : List Int} (h : Ints B w v l) : ∃ a cap, v = .slice a l.length cap := by
  obtain ⟨a, cap, e, _⟩ := h
  exact ⟨a, cap, e⟩
theorem ints_of_row {w : World} {base : Nat} {v : Value} {l : List Int} (h : w.ownsRow base 3 1 v l.length (intV l)) : Ints w.heap.size w v l := by
  rcases h.2 with ⟨rfl, h0⟩ | ⟨g, cap, cur, rfl, _, hg, hc, _⟩
  · exact ⟨none, 0, by rw [h0], by omega, Or.inl h0⟩
  · refine ⟨_, cap, rfl, hc, Or.inr ⟨g, 0, rfl, (Array.getElem?_eq_some_iff.1 hg).1, fun j hj => ?_⟩⟩
    rw [Nat.zero_add, h.cellAt j (by omega), intV_at _ _ hj]
theorem row_slice {w : World} {base : Nat} {e : TypeId} {size : Nat} {v : Value} {n : Nat} {xs : List Value} (h : w.ownsRow base e size v n xs) : ∃ a c, v = .slice a n c := by
  rcases h.2 with ⟨rfl, h0⟩ | ⟨g, cap, cur, rfl, _⟩
  · exact ⟨_, _, by rw [h0]⟩
  · exact ⟨_, _, rfl⟩
theorem own3_base {w : World} {base : Nat} {e : TypeId} {size : Nat} {v : Value} {n : Nat} {xs : List Value} (h : w.ownsRow base e size v n xs) (j : Nat) (hj : v.ownBlock = some j) : base ≤ j := (h.lt j hj).1
theorem full3 : (Tryz.prog.info? 3).map (fun i => (i.zero, i.size, i.bytes)) = some (some (.int .i64 0), 1, 8) := by kernel_rfl
theorem inf3 : ∃ i, Tryz.prog.info? 3 = some i ∧ i.zero = some (.int .i64 0) ∧ i.size = 1 ∧ i.bytes = 8 := by
  have := full3
  cases h : Tryz.prog.info? 3 with
  | none => simp [h] at this
  | some i =>
    simp [h] at this
    exact ⟨i, rfl, this.1, this.2.1, this.2.2⟩
theorem und24 : Tryz.prog.underlying 30 = some (.slice 3) := by kernel_rfl
theorem und23 : Tryz.prog.underlying 43 = some (.array 8 3) := by kernel_rfl
theorem und3 : Tryz.prog.underlying 3 = some (.int .i64) := by kernel_rfl
theorem siz3 : (Tryz.prog.info? 3).map (·.size) = some 1 := by kernel_rfl
theorem siz23 : (Tryz.prog.info? 43).map (·.size) = some 8 := by kernel_rfl

/-- slices.Contains, of whatever list. -/
theorem contains_any (B : Nat) (w : World) (v : Value) (l : List Int) (x : Int) (h : Ints B w v l) (hl : l.length ≤ 9223372036854775807) :
    Calls Tryz.prog 46 #[v, .int .i64 x] w fun e w' => e = .returned (.bool (l.contains x)) ∧ w' = w := by
  obtain ⟨a, cap, rfl, -, h0 | ⟨g, o, rfl, _, hc⟩⟩ := h
  · have e : l = [] := List.eq_nil_of_length_eq_zero h0
    subst e
    exact Tryz.slices_Contains_int_empty a cap x w
  · have := Tryz.slices_Contains_int g o l.length cap l x w (Nat.le_refl _) hl hc
    rwa [List.take_length] at this
theorem somebody_any (x : Int) (w : World) : Calls Tryz.prog 95 #[.int .i64 x] w fun e w' => e = .returned (.bool (decide (0 < x))) ∧ w' = w := by
  go_enter Tryz.func95, Tryz.ntmps95
  go_wp2
  go_ret
  refine ⟨?_, rfl⟩
  simp
end Go.Proofs.YthmnjebmnocoiaaGreat

/- What package ring's walk answers. -/
namespace Go.Proofs.YthmnjebmnocoiaaGreat
open Go.RowKit

theorem row_base {w : World} {base b : Nat} {e : TypeId} {size : Nat} {v : Value} {n : Nat} {xs : List Value} (h : w.ownsRow base e size v n xs) (hb : b ≤ base) : w.ownsRow b e size v n xs := by
  refine ⟨h.1, ?_⟩
  rcases h.2 with h0 | ⟨g, cap, cur, e1, e2, e3⟩
  · exact Or.inl h0
  · exact Or.inr ⟨g, cap, cur, e1, by omega, e3⟩
theorem startOf_lt (p : Int) : startOf p < 8 := by unfold startOf; omega
theorem startOf_eq (p : Int) : max p 0 % 8 = (startOf p : Int) := by unfold startOf; omega
end Go.Proofs.YthmnjebmnocoiaaGreat

/- What the ring's texts share. -/
namespace Go.Proofs.YthmnjebmnocoiaaGreat
open Go.RowKit
theorem below_drewN (B : Nat) (w : World) (q : Nat) : Below B w (w.drewN q) := by
  have : ∀ q, Below B w (w.drewN q) := fun q => by
    induction q with
    | zero => exact Below.refl _ _
    | succ q ih => exact ih.trans (Below.drew (Below.refl _ _))
  exact this q
theorem Ints.cell {B : Nat} {w : World} {a : Option Addr} {n cap : Nat} {l : List Int} (h : Ints B w (.slice a n cap) l) (k : Nat) (x : Int) (hx : l[k]? = some x) : ∃ g o, a = some ⟨g, o, none⟩ ∧ w.cell? ⟨g, o + k, none⟩ = some (.int .i64 x) := by
  have hk : k < l.length := (List.getElem?_eq_some_iff.1 hx).1
  obtain ⟨a', cap', e, _, h0 | ⟨g, o, e1, h1, h2⟩⟩ := h
  · omega
  · obtain ⟨rfl, _, _⟩ := Value.slice.inj e
    refine ⟨g, o, e1, ?_⟩
    rw [h2 k hk, List.getD_eq_getElem?_getD, hx]; rfl
theorem foldl_take_succ {α β : Type} (f : β → α → β) (b : β) (l : List α) (k : Nat) (x : α) (h : l[k]? = some x) : (l.take (k + 1)).foldl f b = f ((l.take k).foldl f b) x := by
  rw [List.take_add_one, h, List.foldl_append]; rfl
theorem Ints.tail {B : Nat} {w : World} {g o n cap : Nat} {y : Int} {l : List Int} (h : Ints B w (.slice (some ⟨g, o, none⟩) n cap) (y :: l)) : Ints B w (.slice (if cap = 1 then some ⟨g, o, none⟩ else (some (⟨g, o, none⟩ : Addr)).map (·.add 1)) (n - 1) (cap - 1)) l := by
  obtain ⟨a', cap', e, hcp, h0 | ⟨g', o', e1, h1, h2⟩⟩ := h
  · simp at h0
  · obtain ⟨rfl, e4, e5⟩ := Value.slice.inj e
    cases e1
    subst e5
    have hl : n = l.length + 1 := by simpa using e4
    subst hl
    refine ⟨_, _, rfl, by simp at hcp; omega, ?_⟩
    by_cases hz : l.length = 0
    · exact Or.inl hz
    · have hc1 : ¬ cap = 1 := by simp at hcp; omega
      rw [if_neg hc1]
      refine Or.inr ⟨g, o + 1, by rw [Option.map_some, Addr.add_mid], h1, fun j hj => ?_⟩
      rw [show o + 1 + j = o + (j + 1) by omega, h2 (j + 1) (by simp; omega)]
      simp

end Go.Proofs.YthmnjebmnocoiaaGreat
