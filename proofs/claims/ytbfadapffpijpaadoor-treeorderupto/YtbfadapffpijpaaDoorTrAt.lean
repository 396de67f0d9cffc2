/- A tree in memory, and what its calls leave as it was. -/
import Derived.Test.YtbfadapffpijpaaDoorTrMem
namespace Go.Proofs.YtbfadapffpijpaaDoor
open Go.RowKit Go.Maps Go.WideMaps

/-- What behind a call that may turn the blocks of L alone is told of the world. -/
structure TUpd (L : Nat → Prop) (w w' : World) : Prop where
  os : w'.os = w.os
  tape : w'.tape = w.tape
  output : w'.output = w.output
  size : w.heap.size ≤ w'.heap.size
  block : ∀ i, i < w.heap.size → ¬ L i → w'.heap[i]? = w.heap[i]?
theorem TUpd.refl (L : Nat → Prop) (w : World) : TUpd L w w := ⟨rfl, rfl, rfl, Nat.le_refl _, fun _ _ _ => rfl⟩
theorem TUpd.trans {L : Nat → Prop} {x y z : World} (h : TUpd L x y) (k : TUpd L y z) : TUpd L x z :=
  ⟨k.os.trans h.os, k.tape.trans h.tape, k.output.trans h.output, Nat.le_trans h.size k.size, fun i hi hl => (k.block i (Nat.lt_of_lt_of_le hi h.size) hl).trans (h.block i hi hl)⟩
theorem TUpd.mono {L L' : Nat → Prop} {x y : World} (h : TUpd L x y) (hL : ∀ i, L i → L' i) : TUpd L' x y := ⟨h.os, h.tape, h.output, h.size, fun i hi hl => h.block i hi (fun q => hl (hL i q))⟩
theorem TUpd.monoLt {L L' : Nat → Prop} {x y : World} (h : TUpd L x y) (hL : ∀ i, i < x.heap.size → L i → L' i) : TUpd L' x y := ⟨h.os, h.tape, h.output, h.size, fun i hi hl => h.block i hi (fun q => hl (hL i hi q))⟩
theorem TUpd.ofBelow {L : Nat → Prop} {x y : World} (h : Below x.heap.size x y) : TUpd L x y := ⟨h.os, h.tape, h.output, h.size, fun i hi _ => h.block i hi⟩
theorem TUpd.alloc {L : Nat → Prop} {x y : World} (h : TUpd L x y) (o : Obj) : TUpd L x (y.alloc o) := h.trans (.ofBelow ((Below.refl _ _).alloc (Nat.le_refl _) o))
theorem TUpd.drew {L : Nat → Prop} {x y : World} (h : TUpd L x y) : TUpd L x y.drew := ⟨h.os, h.tape, h.output, h.size, h.block⟩
theorem TUpd.set {L : Nat → Prop} {x y : World} (h : TUpd L x y) (c i : Nat) (v : Value) (hL : L c) : TUpd L x (y.setCell ⟨c, i, none⟩ v) :=
  ⟨h.os, h.tape, h.output, by simpa using h.size, fun j hj hl => (heap_setCell_other y ⟨c, i, none⟩ j v (fun (e : j = c) => hl (e ▸ hL))).trans (h.block j hj hl)⟩
theorem TUpd.turned {L : Nat → Prop} {x y z : World} {g : Nat} {cs : List Value} {t : TypeId} (h : TUpd L x y) (k : Turned g y z cs t) (hL : L g) : TUpd L x z :=
  h.trans ⟨k.os, k.tape, k.output, Nat.le_of_eq k.size.symm, fun i _ hl => k.others i (fun e => hl (e ▸ hL))⟩
theorem TUpd.grown {L : Nat → Prop} {x y z : World} {m : Nat} (h : TUpd L x y) (hg : y.grownBy z (some m)) (hL : L m) : TUpd L x z :=
  h.trans ⟨hg.os, hg.tape, hg.output, hg.size, fun i hi hl => hg.block i hi (fun e => hl (by
    obtain rfl : i = m := by simpa using e
    exact hL))⟩
theorem TUpd.below {L : Nat → Prop} {x y : World} {B : Nat} (h : TUpd L x y) (hB : B ≤ x.heap.size) (hL : ∀ i, L i → B ≤ i) : Below B x y :=
  ⟨h.os, h.tape, h.output, h.size, fun k hk => h.block k (by omega) (fun e => by have := hL k e; omega)⟩
theorem Holds.tupd {w w' : World} {L : Nat → Prop} {g : Nat} {cs : List Value} {t : TypeId} (h : Holds w g cs t) (hu : TUpd L w w') (hne : ¬ L g) : Holds w' g cs t := by
  unfold Holds
  rw [hu.block g h.lt hne]; exact h
theorem Laid.tupd {w w' : World} {L : Nat → Prop} (h : Laid w) (hu : TUpd L w w') (hL : ∀ i, L i → 2 ≤ i) : Laid w' :=
  h.below (hu.below (B := 2) h.two hL) (Nat.le_refl _)
def Is (b k : Nat) : Prop := k = b
/-- A tree's own blocks. -/
def Own (b : Nat) (mv : List Value) (i : Nat) : Prop := i = b ∨ Value.map (some i) ∈ mv
/-- A tree in memory. -/
structure TreeAt (w : World) (N b : Nat) (mv : List Value) (T : Tr) : Prop where
  holds : Holds w b (treeV mv T) 32
  len : mv.length = 256
  ok : T.Ok
  maps : ∀ i, i < 256 → MapIs w (mv.getD i (.map none)) (leafAt T i)
  apart : ∀ (i j m : Nat), mv[i]? = some (.map (some m)) → mv[j]? = some (.map (some m)) → i = j
  low : ∀ i, Own b mv i → N ≤ i
theorem map_mem {mv : List Value} {m : Nat} (h : Value.map (some m) ∈ mv) : ∃ i : Nat, i < mv.length ∧ mv[i]? = some (.map (some m)) := by
  obtain ⟨i, hi, e⟩ := List.getElem_of_mem h
  exact ⟨i, hi, by rw [List.getElem?_eq_getElem hi, e]⟩
theorem TreeAt.keys {w : World} {N b : Nat} {mv : List Value} {T : Tr} (h : TreeAt w N b mv T) {i m : Nat} (hi : mv[i]? = some (.map (some m))) : KeysAt w m (leafAt T i) := by
  have hl : i < mv.length := (List.getElem?_eq_some_iff.1 hi).1
  have := h.maps i (by have := h.len; omega)
  rw [List.getD_eq_getElem?_getD, hi] at this
  rcases this with ⟨e, _⟩ | ⟨mb, e, hk⟩
  · cases e
  · cases e; exact hk
theorem TreeAt.lt {w : World} {N b : Nat} {mv : List Value} {T : Tr} (h : TreeAt w N b mv T) : ∀ i, Own b mv i → i < w.heap.size := fun i hi => by
  rcases hi with rfl | hi
  · exact h.holds.lt
  · obtain ⟨j, _, hj⟩ := map_mem hi
    exact (h.keys hj).lt
theorem TreeAt.bm {w : World} {N b : Nat} {mv : List Value} {T : Tr} (h : TreeAt w N b mv T) : Value.map (some b) ∉ mv := fun hm => by
  obtain ⟨j, _, hj⟩ := map_mem hm
  obtain ⟨es, c, q⟩ := (h.keys hj).isMap
  have q2 := h.holds
  unfold Holds at q2
  rw [q2] at q; cases q
theorem MapIs.same {w w' : World} {v : Value} {kv : Fs} (h : MapIs w v kv) (hs : ∀ m, v = .map (some m) → w'.heap[m]? = w.heap[m]?) : MapIs w' v kv := by
  rcases h with h | ⟨mb, e, hk⟩
  · exact .inl h
  · exact .inr ⟨mb, e, hk.same (hs mb e)⟩
theorem getD_mem {mv : List Value} {i m : Nat} (h : mv.getD i (.map none) = .map (some m)) : mv[i]? = some (.map (some m)) := by
  rw [List.getD_eq_getElem?_getD] at h
  cases hq : mv[i]? with
  | none => rw [hq] at h; cases h
  | some v => rw [hq] at h; exact congrArg some h
/-- A call on something else leaves a tree. -/
theorem TreeAt.tupd {w w' : World} {L : Nat → Prop} {N b : Nat} {mv : List Value} {T : Tr} (h : TreeAt w N b mv T) (hu : TUpd L w w') (hL : ∀ i, Own b mv i → ¬ L i) : TreeAt w' N b mv T :=
  ⟨h.holds.tupd hu (hL b (.inl rfl)), h.len, h.ok, fun i hi => (h.maps i hi).same (fun m e => hu.block m (h.lt m (.inr (List.mem_of_getElem? (getD_mem e)))) (hL m (.inr (List.mem_of_getElem? (getD_mem e))))), h.apart, h.low⟩
theorem TreeAt.ofBelow {w w' : World} {N b : Nat} {mv : List Value} {T : Tr} (h : TreeAt w N b mv T) (hb : Below w.heap.size w w') : TreeAt w' N b mv T := h.tupd (L := fun _ => False) (.ofBelow hb) (fun _ _ q => q)
/-- Only the tree's own block was written: its maps are as they were. -/
theorem TreeAt.rest {w w' : World} {N b : Nat} {mv : List Value} {T T' : Tr} (h : TreeAt w N b mv T) (hu : TUpd (Is b) w w') (hh : Holds w' b (treeV mv T') 32) (ho : T'.Ok) (hlv : T'.lv = T.lv) : TreeAt w' N b mv T' := by
  refine ⟨hh, h.len, ho, fun i hi => ?_, h.apart, h.low⟩
  have e : leafAt T' i = leafAt T i := by unfold leafAt; rw [hlv]
  rw [e]
  exact (h.maps i hi).same (fun m e => hu.block m (h.lt m (.inr (List.mem_of_getElem? (getD_mem e)))) (fun q => h.bm (q ▸ List.mem_of_getElem? (getD_mem e))))
end Go.Proofs.YtbfadapffpijpaaDoor
