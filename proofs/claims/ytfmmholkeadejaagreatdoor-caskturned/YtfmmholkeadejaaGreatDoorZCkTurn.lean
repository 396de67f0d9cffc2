/- CaskTurned: the spots of records, and what the law holds between two rounds. -/
import Derived.Test.YtfmmholkeadejaaGreatDoorZCkBad
import Derived.Test.YtfmmholkeadejaaGreatDoorZCkLast
namespace Go.Proofs.YtfmmholkeadejaaGreatDoor
open Go.RowKit

theorem rec_len (c : Ch) : (chB c).length = (Pk.numL (Pk.strL (bodyL c.k c.v c.dead)).size).length + ((Pk.strL (bodyL c.k c.v c.dead)).size + 4) := by
  show (Pk.frameL (Pk.strL (bodyL c.k c.v c.dead))).length = _
  rw [Pk.frameL, Pk.textL, List.length_append, List.length_append, Pk.four_length]
  show _ + (Pk.strL (bodyL c.k c.v c.dead)).size + 4 = _
  omega
theorem numL_one (n : Nat) : 1 ≤ (Pk.numL n).length := by
  by_cases h : n < 128
  · rw [Pk.numL_small h]; simp
  · rw [Pk.numL_big h]; simp
theorem rec_five (c : Ch) : 5 ≤ (chB c).length := by
  have := rec_len c
  have := numL_one (Pk.strL (bodyL c.k c.v c.dead)).size
  omega
theorem rec_big (c : Ch) (h : c.Ok) : (chB c).length ≤ 1000000 := by
  have := rec_len c
  have := rec_size c.k c.v c.dead h
  have := Pk.numL_len 2 (Pk.strL (bodyL c.k c.v c.dead)).size (by omega)
  omega
theorem spot1 (c : Ch) (h : (chB c).length ≤ 132) (j : Nat) (h1 : 1 ≤ j) (h2 : j < (chB c).length) : Spot c j := by
  have e := rec_len c
  have p := numL_one (Pk.strL (bodyL c.k c.v c.dead)).size
  refine ⟨?_, h2⟩
  rw [Pk.numL_small (by omega)]
  exact h1
theorem spot2 (c : Ch) (h : (chB c).length ≤ 3000) (j : Nat) (h1 : 2 ≤ j) (h2 : j < (chB c).length) : Spot c j := by
  have e := rec_len c
  refine ⟨Nat.le_trans (Pk.numL_len 1 _ (by omega)) h1, h2⟩
/-- A place of the records' bytes that is none of a length's. -/
def GS (chs : List Ch) (x : Nat) : Prop := ∃ A c B k, chs = A ++ c :: B ∧ x = (A.flatMap chB).length + k ∧ Spot c k
theorem GS.more {chs : List Ch} {x : Nat} (h : GS chs x) (c : Ch) : GS (chs ++ [c]) x := by
  obtain ⟨A, c', B, k, rfl, rfl, h⟩ := h
  exact ⟨A, c', B ++ [c], k, by simp, rfl, h⟩
theorem gs_new (chs : List Ch) (c : Ch) (k : Nat) (h : Spot c k) : GS (chs ++ [c]) ((chs.flatMap chB).length + k) := ⟨chs, c, [], k, rfl, rfl, h⟩
structure TrS (w : World) (chs : List Ch) (s : ByteArray) (xs : List Nat) (W : World) (v : Value) : Prop where
  bytes : s.data.toList = chs.flatMap chB
  oks : ∀ c ∈ chs, c.Ok
  len : xs.length ≤ s.size
  spots : ∀ x ∈ xs, GS chs x
  any : chs ≠ [] → xs ≠ []
  row : W.ownsRow w.heap.size 3 1 v xs.length (segV xs)
  bel : Below w.heap.size w W
/-- Within a record's bytes. -/
structure TrM (w : World) (chs : List Ch) (c : Ch) (s : ByteArray) (xs : List Nat) (j hd : Nat) (W : World) (v : Value) : Prop where
  len : xs.length ≤ s.size + j
  spots : ∀ x ∈ xs, GS (chs ++ [c]) x
  any : hd < j → xs ≠ []
  row : W.ownsRow w.heap.size 3 1 v xs.length (segV xs)
  bel : Below w.heap.size w W
theorem TrS.below {w W W' : World} {chs : List Ch} {s : ByteArray} {xs : List Nat} {v : Value} (h : TrS w chs s xs W v) (hb : Below W.heap.size W W') : TrS w chs s xs W' v :=
  ⟨h.bytes, h.oks, h.len, h.spots, h.any, row_below h.row hb, h.bel.trans (hb.mono h.bel.size)⟩
theorem TrS.start {w W : World} (hb : Below w.heap.size w W) : TrS w [] ⟨#[]⟩ [] W (.slice none 0 0) := ⟨rfl, by simp, by simp, by simp, fun e => absurd rfl e, World.ownsRow_nil _ _ _ _, hb⟩
theorem TrS.enter {w W : World} {chs : List Ch} {s : ByteArray} {xs : List Nat} {v : Value} (h : TrS w chs s xs W v) (c : Ch) (hd : Nat) : TrM w chs c s xs hd hd W v :=
  ⟨Nat.le_trans h.len (Nat.le_add_right _ _), fun x hx => (h.spots x hx).more c, fun e => absurd e (Nat.lt_irrefl _), h.row, h.bel⟩
theorem segV_snoc (xs : List Nat) (n : Nat) : segV (xs ++ [n]) = segV xs ++ [.int .i64 (n : Int)] := by simp [segV]
theorem TrM.next {w W W' : World} {chs : List Ch} {c : Ch} {s : ByteArray} {xs : List Nat} {j hd : Nat} {v v' : Value} {ob : Obj} (hs : s.data.toList = chs.flatMap chB) (h : TrM w chs c s xs j hd W v) (hj : Spot c j) (hg : (W.alloc ob).grownBy W' v.ownBlock) (hr : W'.ownsRow w.heap.size 3 1 v' (xs.length + 1) (segV xs ++ [.int .i64 ((s.size : Int) + (j : Int))])) : TrM w chs c s (xs ++ [s.size + j]) (j + 1) hd W' v' := by
  have hz : s.size = (chs.flatMap chB).length := by rw [← hs]; rfl
  have hB := h.bel.alloc h.bel.size ob
  refine ⟨by rw [List.length_append]; have := h.len; simp; omega, fun x hx => ?_, fun _ e => by simp at e, ?_, below_grown hB hg hB.size (h.row.alloc ob)⟩
  · rcases List.mem_append.1 hx with hx | hx
    · exact h.spots x hx
    · simp at hx
      rw [hx, hz]
      exact gs_new chs c j hj
  · rw [List.length_append, segV_snoc, Int.natCast_add]; exact hr
theorem TrM.leave {w W : World} {chs : List Ch} {c : Ch} {s : ByteArray} {xs : List Nat} {j hd : Nat} {v : Value} (hs : s.data.toList = chs.flatMap chB) (ho : ∀ c ∈ chs, c.Ok) (hc : c.Ok) (h : TrM w chs c s xs j hd W v) (hj : j = (chR c).size) (hd5 : hd < 5) : TrS w (chs ++ [c]) (s ++ chR c) xs W v := by
  have hz : (chR c).data.toList = chB c := Pk.strL_list _
  have h5 := rec_five c
  have hz2 : (chR c).size = (chB c).length := by rw [← hz]; rfl
  refine ⟨by rw [List.flatMap_append, ← hs]; simp [hz], fun x hx => ?_, ?_, h.spots, fun _ => h.any (by omega), h.row, h.bel⟩
  · rcases List.mem_append.1 hx with hx | hx
    · exact ho x hx
    · simp at hx; rw [hx]; exact hc
  · rw [ByteArray.size_append]
    have := h.len
    omega
theorem new_int (W : World) (z : Int) : ∀ j u, [Value.int .i64 z][j]? = some u → (W.alloc (.cells #[.int .i64 z] 3)).cell? ((⟨W.heap.size, 0, none⟩ : Addr).add j) = some u := fun j u hu => by
  have := (holds_new W [.int .i64 z] 3).at j u hu
  have e : (⟨W.heap.size, 0, none⟩ : Addr).add j = ⟨W.heap.size, j, none⟩ := by simp [Addr.add]; exact fun h => h.symm
  rw [e]; exact this
end Go.Proofs.YtfmmholkeadejaaGreatDoor
