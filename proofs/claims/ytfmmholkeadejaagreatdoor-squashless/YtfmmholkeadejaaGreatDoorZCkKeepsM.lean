/- CaskKeeps: the script, and what stands between two rounds. -/
import Derived.Test.YtfmmholkeadejaaGreatDoorZCkKeeps
namespace Go.Proofs.YtfmmholkeadejaaGreatDoor
open Go.RowKit

/-- A call of the script. -/
structure Ko where
  kind : Int
  num : Int
  key : ByteArray
  val : ByteArray
  picks : List Int
structure Ko.Ok (o : Ko) : Prop where
  kind : -9223372036854775808 ≤ o.kind ∧ o.kind < 9223372036854775808
  num : -9223372036854775808 ≤ o.num ∧ o.num < 9223372036854775808
  key : o.key.size ≤ maxLen
  picks : ∀ p ∈ o.picks, -9223372036854775808 ≤ p ∧ p < 9223372036854775808
/-- The script in memory. -/
def InK (w : World) (a : Option Addr) (l : List Ko) : Prop := l ≠ [] → ∃ b o, a = some ⟨b, o, none⟩ ∧ b < w.heap.size ∧ ∀ i x, l[i]? = some x → ∃ pa pq,
  (∀ W, Below w.heap.size w W → W.cell? ⟨b, o + i * 5, none⟩ = some (.int .i64 x.kind) ∧ W.cell? ⟨b, o + i * 5 + 1, none⟩ = some (.int .i64 x.num) ∧ W.cell? ⟨b, o + i * 5 + 2, none⟩ = some (.string x.key) ∧ W.cell? ⟨b, o + i * 5 + 3, none⟩ = some (.string x.val) ∧ W.cell? ⟨b, o + i * 5 + 4, none⟩ = some (.slice pa x.picks.length pq)) ∧
  x.picks.length ≤ pq ∧ pq ≤ maxLen ∧ (∀ W (N : Lo), N.n = w.heap.size → Below w.heap.size w W → IntsAt W N pa x.picks)
theorem info52k : (Tryz.prog.info? 52).map (fun i => (i.zero, i.size, i.bytes)) = some (some (.agg #[.string ⟨#[]⟩, .string ⟨#[]⟩, .bool false]), 3, 40) := by kernel_rfl
/-- Between two rounds: the row and the cask. -/
def KR (w : World) (c d : Nat) (all : List Ch) (firm i : Nat) (W : World) (a : Option Addr) (n q : Nat) : Prop := n = all.length ∧ n ≤ i ∧ firm ≤ n ∧ n ≤ q ∧ KI w c d all all firm i W (.slice a n q)
theorem KR.bel {w W : World} {c d firm i n q : Nat} {a : Option Addr} {all : List Ch} (h : KR w c d all firm i W a n q) : Below w.heap.size w W := h.2.2.2.2.bel
theorem row_nk {W : World} {m e size n k q : Nat} {a : Option Addr} {xs : List Value} (h : W.ownsRow m e size (.slice a n q) k xs) : n = k ∧ n ≤ q := by
  rcases h.2 with ⟨e1, h0⟩ | ⟨g, cap, cur, e1, h1, h2, h3, _⟩
  · injection e1 with e2 e3 e4
    omega
  · injection e1 with e2 e3 e4
    omega
theorem keeps_app {w W W' : World} {c d firm i n q n' q' : Nat} {a a' : Option Addr} {all : List Ch} {ch : Ch} {ob : Obj} (hn : n = all.length) (hi : n ≤ i) (hf : firm ≤ n) (h : KI w c d (all ++ [ch]) all firm (i + 1) W (.slice a n q))
    (ho : W'.ownsRow w.heap.size 52 3 (.slice a' n' q') (n + 1) (rowI all ++ [.string ch.k, .string ch.v, .bool ch.dead])) (hg : (W.alloc ob).grownBy W' (Value.slice a n q).ownBlock) : KR w c d (all ++ [ch]) firm (i + 1) W' a' n' q' := by
  have h1 := h.below ((Below.refl W.heap.size W).alloc (Nat.le_refl _) ob)
  obtain ⟨e1, e2⟩ := row_nk ho
  refine ⟨by simp; omega, by omega, by omega, e2, ?_⟩
  rw [hn] at ho
  exact keeps_more h1 hg rfl ho
theorem new_threek (W : World) (k V : ByteArray) (b : Bool) : ∀ j u, [Value.string k, .string V, .bool b][j]? = some u → (W.alloc (.cells #[.string k, .string V, .bool b] 52)).cell? ((⟨W.heap.size, 0, none⟩ : Addr).add j) = some u := fun j u hu => by
  have := (holds_new W [.string k, .string V, .bool b] 52).at j u hu
  have e : (⟨W.heap.size, 0, none⟩ : Addr).add j = ⟨W.heap.size, j, none⟩ := by simp [Addr.add]; exact fun h => h.symm
  rw [e]; exact this
theorem crash_rise {S : Dk} (h : Rising S.fs) (ps : List Int) : Rising (crashS S ps).fs := by
  have h1 : (S.fs.map Prod.fst).Pairwise (· < ·) := List.pairwise_map.2 h
  rw [← crashD_keys S.fs ps] at h1
  exact List.pairwise_map.1 h1
theorem Holds.oth {W W' : World} {b : Nat} {cs : List Value} {t : TypeId} (h : Holds W b cs t) (ho : Oth W W') (h1 : t ≠ 122) (h2 : t ≠ 128) (h3 : t ≠ 5) (h4 : t ≠ 28) (h5 : t ≠ 3) : Holds W' b cs t := by
  unfold Holds at h ⊢
  rw [ho b _ _ _ h h1 h2 h3 h4 h5]; exact h
/-- The boxes of a round: the call and the change. -/
abbrev bxO (o : Ko) (pa : Option Addr) (PN pq : Nat) : Obj := .cells #[.int .i64 o.kind, .int .i64 o.num, .string o.key, .string o.val, .slice pa PN pq] 50
abbrev bxX (k v : ByteArray) (b : Bool) : Obj := .cells #[.string k, .string v, .bool b] 52
theorem box_two (wr W : World) (o : Obj) (k v : ByteArray) (b : Bool) (h : Oth ((wr.alloc o).alloc (bxX k v b)) W) : W.cell? ⟨wr.heap.size + 1, 0, none⟩ = some (.string k) ∧ W.cell? ⟨wr.heap.size + 1, 1, none⟩ = some (.string v) ∧ W.cell? ⟨wr.heap.size + 1, 2, none⟩ = some (.bool b) := by
  have h1 : Holds ((wr.alloc o).alloc (bxX k v b)) (wr.heap.size + 1) [.string k, .string v, .bool b] 52 := by
    have := holds_new (wr.alloc o) [.string k, .string v, .bool b] 52
    rw [World.size_alloc] at this
    exact this
  have h2 := h1.oth h (by decide) (by decide) (by decide) (by decide) (by decide)
  exact ⟨h2.at 0 _ rfl, h2.at 1 _ rfl, h2.at 2 _ rfl⟩
theorem box_one (wr W : World) (o : Ko) (pa : Option Addr) (PN pq : Nat) (x : Obj) (h : Oth ((wr.alloc (bxO o pa PN pq)).alloc x) W) : W.cell? ⟨wr.heap.size, 1, none⟩ = some (.int .i64 o.num) := by
  have h1 : Holds (wr.alloc (bxO o pa PN pq)) wr.heap.size [.int .i64 o.kind, .int .i64 o.num, .string o.key, .string o.val, .slice pa PN pq] 50 := holds_new wr [.int .i64 o.kind, .int .i64 o.num, .string o.key, .string o.val, .slice pa PN pq] 50
  have h2 := h1.oth (Oth.ofBelow ((Below.refl (wr.alloc (bxO o pa PN pq)).heap.size (wr.alloc (bxO o pa PN pq))).alloc (Nat.le_refl _) x)) (by decide) (by decide) (by decide) (by decide) (by decide)
  exact (h2.oth h (by decide) (by decide) (by decide) (by decide) (by decide)).at 1 _ rfl
theorem KS.boxes {w wr : World} {N : Lo} {c d mb : Nat} {S : Dk} {K : Ck} {ps all : List Ch} {firm i : Nat} {v : Value} (h : KS w N c d mb S K ps all firm i wr v) (o x : Obj) : KS w N c d mb S K ps all firm i ((wr.alloc o).alloc x) v :=
  (h.below ((Below.refl _ wr).alloc (Nat.le_refl _) o)).below ((Below.refl _ (wr.alloc o)).alloc (Nat.le_refl _) x)
end Go.Proofs.YtfmmholkeadejaaGreatDoor
