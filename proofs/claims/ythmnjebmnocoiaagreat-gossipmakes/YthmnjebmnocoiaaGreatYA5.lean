/- GsRow, GsMerge, GsNorm, GsState. -/
import Derived.Great.BuildSlice
import Derived.Test.YthmnjebmnocoiaaGreatYGsMem
import Derived.Test.YthmnjebmnocoiaaGreatYGsOwn
import Derived.Test.YthmnjebmnocoiaaGreatYGsSort
/- A row of rings is made. -/
namespace Go.Proofs.YthmnjebmnocoiaaGreat
open Go.RowKit

theorem overV_nil (A : List Value) (o : Nat) : overV A o [] = A := by unfold overV; simp
theorem fold_over : ∀ (c : List Value) (s o : Nat) (A : List Value), o + s + c.length ≤ A.length → (c.zipIdx s).foldl (fun cs x => cs.setIfInBounds (o + x.2) x.1) A.toArray = (overV A (o + s) c).toArray
  | [], s, o, A, _ => by rw [overV_nil]; rfl
  | v :: c, s, o, A, h => by
    have h' : o + s + (c.length + 1) ≤ A.length := by simpa using h
    rw [List.zipIdx_cons, List.foldl_cons]
    have e : A.toArray.setIfInBounds (o + s) v = (A.set (o + s) v).toArray := by simp
    show (c.zipIdx (s + 1)).foldl _ (A.toArray.setIfInBounds (o + s) v) = _
    rw [e, fold_over c (s + 1) o (A.set (o + s) v) (by simp; omega), ← overV_cons A (o + s) v c (by omega)]
    rfl
theorem over_take (A c : List Value) (o : Nat) (h : o + c.length ≤ A.length) : (overV A o c).take (o + c.length) = A.take o ++ c := by
  unfold overV
  have h1 : (A.take o ++ c).length = o + c.length := by rw [List.length_append, List.length_take, Nat.min_eq_left (by omega)]
  rw [← h1, List.take_left']
  rfl
theorem over_len (A c : List Value) (o : Nat) (h : o + c.length ≤ A.length) : (overV A o c).length = A.length := by
  unfold overV
  simp; omega
theorem fill_rings : ∀ (L : List (List Value)) (k : Nat) (A : List Value), (∀ c ∈ L, c.length = 17) → k * 17 + L.length * 17 = A.length →
    Instr.fill (fun i => some (i * 17, 17)) A.toArray ((L.zipIdx k).map fun x => (x.2, Value.agg x.1.toArray)) = some (A.take (k * 17) ++ L.flatten).toArray
  | [], k, A, _, h => by
    have : A.take (k * 17) = A := List.take_of_length_le (by simp at h; omega)
    simp [Instr.fill, this]
  | c :: L, k, A, hc, h => by
    have h17 : c.length = 17 := hc c (by simp)
    have h' : k * 17 + (L.length + 1) * 17 = A.length := by simpa using h
    rw [List.zipIdx_cons, List.map_cons, Instr.fill]
    have hz : (Value.agg c.toArray).cells.size = 17 := by simp [Value.cells, h17]
    simp only [hz]
    rw [if_neg (by simp; omega)]
    have hf : (Value.agg c.toArray).cells.zipIdx.foldl (fun cs x => cs.setIfInBounds (k * 17 + x.2) x.1) A.toArray = (overV A (k * 17) c).toArray := by
      have := fold_over c 0 (k * 17) A (by omega)
      rw [Nat.add_zero] at this
      rw [← this]
      simp [Value.cells]
    rw [hf, fill_rings L (k + 1) (overV A (k * 17) c) (fun d hd => hc d (by simp [hd])) (by rw [over_len A c _ (by omega)]; omega)]
    have ht := over_take A c (k * 17) (by omega)
    rw [h17] at ht
    rw [show (k + 1) * 17 = k * 17 + 17 by omega, ht]
    simp
theorem inf28 : ∃ i, Tryz.prog.info? 28 = some i ∧ i.zero = some (.agg (ringC (.slice none 0 0) ([], noOs)).toArray) ∧ i.size = 17 := by
  have h1 : (Tryz.prog.info? 28).map (fun i => (i.zero, i.size)) = some (some (.agg (ringC (.slice none 0 0) ([], noOs)).toArray), 17) := by kernel_rfl
  cases h : Tryz.prog.info? 28 with
  | none => simp [h] at h1
  | some i =>
    simp only [h, Option.map_some, Option.some.injEq, Prod.mk.injEq] at h1
    exact ⟨i, rfl, h1.1, h1.2⟩
theorem und53 : Tryz.prog.underlying 36 = some (.slice 28) := by kernel_rfl
theorem run_rings (L : List (List Value)) (hL : ∀ c ∈ L, c.length = 17) (h0 : 0 < L.length) (h1 : L.length ≤ 1000) (w : World) (parts : Array (Nat × Value)) (hp : parts.toList = (L.zipIdx 0).map fun x => (x.2, Value.agg x.1.toArray)) :
    (Instr.buildSlice 36 L.length parts).run Tryz.prog w = .ok (.slice (some ⟨w.heap.size, 0, none⟩) L.length L.length) (w.alloc (.cells L.flatten.toArray 28)) := by
  obtain ⟨i, hi, hz, hs⟩ := inf28
  refine run_buildSlice w 36 28 L.length parts _ i _ und53 hi hz (by rw [hs]; omega) (by rw [hs]; omega) ?_
  rw [hp, hs]
  have := fill_rings L 0 ((Array.range (L.length * 17)).map ((Value.agg (ringC (.slice none 0 0) ([], noOs)).toArray).cells[· % (Value.agg (ringC (.slice none 0 0) ([], noOs)).toArray).cells.size]!)).toList hL (by simp)
  rw [Array.toArray_toList] at this
  rw [this]; simp
theorem wpList_rings {ops : Array Oper} {rest : List Oper} {o : Oper} {a : Act} {w : World} {Q : Exit → Act → World → Prop} (d : Nat) (hd : o.dst = some d) (hgd : o.guard = none) (len : Nat) (parts : Array (Nat × Operand)) (ho : o.op = .buildSlice 36 len parts)
    (L : List (List Value)) (hlen : L.length = len) (hL : ∀ c ∈ L, c.length = 17) (h0 : 0 < len) (h1 : len ≤ 1000) (hp : parts.toList.map (fun p => (p.1, a.eval p.2)) = (L.zipIdx 0).map fun x => (x.2, Value.agg x.1.toArray))
    (cs : List Value) (hcs : L.flatten = cs) (N : Nat) (hN : w.heap.size = N)
    (h : ∀ w', Anew N w w' cs 28 → wpList Tryz.prog ops Q rest (a.put (some d) (.slice (some ⟨N, 0, none⟩) len len)) w') : wpList Tryz.prog ops Q (o :: rest) a w :=
  wpList_plain hgd fun K hK => by
    subst hlen
    subst hcs
    unfold Oper.wp execOp
    have hp' : (parts.map fun (i, x) => (i, a.eval x)).toList = (L.zipIdx 0).map fun x => (x.2, Value.agg x.1.toArray) := by rw [Array.toList_map]; exact hp
    simp only [ho, Sem.run_bind, run_rings L hL h0 h1 w _ hp', Result.andThen_ok]
    have := hK _ _ (hd ▸ h _ (anew_alloc N w hN L.flatten 28))
    subst hN
    exact this
theorem flat1 (a : List Value) : [a].flatten = a := by simp
theorem all1 {a : List Value} (h : a.length = 17) : ∀ c ∈ [a], c.length = 17 := by simp [h]
theorem all2 {a b : List Value} (h : a.length = 17) (h2 : b.length = 17) : ∀ c ∈ [a, b], c.length = 17 := by simp [h, h2]
end Go.Proofs.YthmnjebmnocoiaaGreat

/- What package gossip's Merge and Norm tell. -/
namespace Go.Proofs.YthmnjebmnocoiaaGreat
open Go.RowKit

structure Outs (s : Nat → Prop) (w w' : World) : Prop where
  os : w'.os = w.os
  tape : w'.tape = w.tape
  output : w'.output = w.output
  size : w.heap.size ≤ w'.heap.size
  block : ∀ k, k < w.heap.size → ¬ s k → w'.heap[k]? = w.heap[k]?
theorem Outs.refl (s : Nat → Prop) (w : World) : Outs s w w := ⟨rfl, rfl, rfl, Nat.le_refl _, fun _ _ _ => rfl⟩
theorem Outs.trans {s : Nat → Prop} {x y z : World} (h : Outs s x y) (k : Outs s y z) : Outs s x z :=
  ⟨k.os.trans h.os, k.tape.trans h.tape, k.output.trans h.output, Nat.le_trans h.size k.size, fun i hi hb => (k.block i (Nat.lt_of_lt_of_le hi h.size) hb).trans (h.block i hi hb)⟩
theorem Outs.ofBelow {s : Nat → Prop} {x y : World} (h : Below x.heap.size x y) : Outs s x y := ⟨h.os, h.tape, h.output, h.size, fun k hk _ => h.block k hk⟩
theorem Outs.ofUpd {s : Nat → Prop} {b : Nat} {x y : World} (h : Upd b x y) (hb : s b) : Outs s x y := ⟨h.os, h.tape, h.output, h.size, fun k hk hn => h.block k hk (fun e => hn (e ▸ hb))⟩
theorem Outs.ofTurned {s : Nat → Prop} {b : Nat} {x y : World} {cs : List Value} {t : TypeId} (h : Turned b x y cs t) (hb : s b) : Outs s x y := ⟨h.os, h.tape, h.output, Nat.le_of_eq h.size.symm, fun k _ hn => h.others k (fun e => hn (e ▸ hb))⟩
theorem Holds.outs {s : Nat → Prop} {w w' : World} {g : Nat} {cs : List Value} {t : TypeId} (h : Holds w g cs t) (hu : Outs s w w') (hne : ¬ s g) : Holds w' g cs t := by
  unfold Holds
  rw [hu.block g h.lt hne]; exact h
theorem Mems.outs {s : Nat → Prop} {B : Nat} {w w' : World} {v : Value} {l : List Mb} (h : Mems B w v l) (hu : Outs s w w') (hB : B ≤ w.heap.size) (hs : ∀ g, v.ownBlock = some g → ¬ s g) : Mems B w' v l := by
  obtain ⟨a, cap, e, hcp, hc⟩ := h
  refine ⟨a, cap, e, hcp, ?_⟩
  rcases hc with h0 | ⟨g, o, e1, h1, h2⟩
  · exact Or.inl h0
  · have hb : w'.heap[g]? = w.heap[g]? := hu.block g (by omega) (hs g (by rw [e, e1]; rfl))
    refine Or.inr ⟨g, o, e1, h1, fun i m hm => ?_⟩
    obtain ⟨q0, q1, q2⟩ := h2 i m hm
    refine ⟨?_, ?_, ?_⟩
    · rw [World.cell?_of_block (w := w) hb]; exact q0
    · rw [World.cell?_of_block (w := w) hb]; exact q1
    · rw [World.cell?_of_block (w := w) hb]; exact q2
theorem Outs.below {s : Nat → Prop} {B : Nat} {x y : World} (h : Outs s x y) (hB : ∀ k, k < B → ¬ s k) (hs : B ≤ x.heap.size) : Below B x y :=
  ⟨h.os, h.tape, h.output, h.size, fun k hk => h.block k (by omega) (hB k hk)⟩

def Fresh (B : Nat) (v : Value) : Prop := ∀ g, v.ownBlock = some g → B ≤ g
theorem Fresh.mono {B C : Nat} {v : Value} (h : Fresh C v) (hb : B ≤ C) : Fresh B v := fun g hg => Nat.le_trans hb (h g hg)
theorem RingAt.outs {s : Nat → Prop} {B F : Nat} {w w' : World} {v : Value} {r : Rg} (h : RingAt B w v r) (hf : Fresh F v) (hu : Outs s w w') (hB : B ≤ w.heap.size) (hs : ∀ g, F ≤ g → ¬ s g) : RingAt B w' v r := ⟨h.mem.outs hu hB (fun g hg => hs g (hf g hg)), h.own⟩
def mergeK (l : List Rg) : Kn := l.foldl (fun k r => hearL k r.1) noK
def mergeO (l : List Rg) : List Ow := l.foldl (fun a r => newestL a r.2) noOs
def mergeL (l : List Rg) : Rg := (risL (mergeK l), mergeO l)
def normL (r : Rg) : Rg := mergeL [r]
theorem foldK_right : ∀ (l : List Rg) {k : Kn}, Right k → Right (l.foldl (fun k r => hearL k r.1) k)
  | [], _, h => h
  | r :: l, _, h => foldK_right l (hearL_right r.1 h)
theorem mergeK_right (l : List Rg) : Right (mergeK l) := foldK_right l noK_right
theorem foldO_len : ∀ (l : List Rg) {a : List Ow}, a.length = 8 → (l.foldl (fun a r => newestL a r.2) a).length = 8
  | [], _, h => h
  | _ :: l, _, _ => foldO_len l (newestL_len _ _)
theorem mergeO_len (l : List Rg) : (mergeO l).length = 8 := foldO_len l rfl
def flatR (l : List (Value × Rg)) : List Value := l.flatMap fun p => ringC p.1 p.2
theorem flatR_cell : ∀ {l : List (Value × Rg)} (_ : ∀ p ∈ l, p.2.2.length = 8) {i : Nat} {p : Value × Rg}, l[i]? = some p → ∀ (j : Nat), j < 17 → (flatR l)[i * 17 + j]? = (ringC p.1 p.2)[j]?
  | [], _, i, p, h, j, hj => by simp at h
  | q :: l, hl, 0, p, h, j, hj => by
    simp at h
    subst h
    rw [Nat.zero_mul, Nat.zero_add]
    have e : flatR (q :: l) = ringC q.1 q.2 ++ flatR l := by simp [flatR]
    have h8 := hl q (by simp)
    rw [e, List.getElem?_append_left (by unfold ringC; rw [List.length_cons, ownV_len, h8]; omega)]
  | q :: l, hl, i + 1, p, h, j, hj => by
    have := flatR_cell (l := l) (fun p hp => hl p (by simp [hp])) (i := i) (p := p) (by simpa using h) j hj
    have e : flatR (q :: l) = ringC q.1 q.2 ++ flatR l := by simp [flatR]
    have h8 := hl q (by simp)
    have hz : (ringC q.1 q.2).length = 17 := by unfold ringC; rw [List.length_cons, ownV_len, h8]
    rw [e, List.getElem?_append_right (by omega), ← this, hz]
    congr 1
    omega
theorem foldl_take_succ2 {α β : Type} (f : β → α → β) (b : β) (l : List α) (k : Nat) (x : α) (h : l[k]? = some x) : (l.take (k + 1)).foldl f b = f ((l.take k).foldl f b) x := by
  rw [List.take_add_one, h, List.foldl_append]; rfl
theorem overV_tail (x : Value) (cs ds : List Value) (h : ds.length = cs.length) : overV (x :: cs) 1 ds = x :: ds := by
  unfold overV
  rw [List.drop_eq_nil_of_le (by simp; omega)]
  simp
theorem make55 (W : World) : (Instr.makeMap 56 none).run Tryz.prog W = .ok (.map (some W.heap.size)) (W.alloc (.map #[] 0)) := by kernel_rfl
set_option maxRecDepth 100000 in
set_option maxHeartbeats 4000000 in
theorem merge_any (l : List (Value × Rg)) (g : Nat) (w : World) (hg : Holds w g (flatR l) 28) (hl : ∀ p ∈ l, RingAt w.heap.size w p.1 p.2) (hn : l.length ≤ 1000) :
    Calls Tryz.prog 10 #[.slice (some ⟨g, 0, none⟩) l.length l.length] w fun e w' => ∃ v, e = .returned (ringV v (mergeL (l.map (·.2)))) ∧ RingAt w'.heap.size w' v (mergeL (l.map (·.2))) ∧ Fresh w.heap.size v ∧ Below w.heap.size w w' := by
  obtain ⟨N, hN⟩ : ∃ N, w.heap.size = N := ⟨_, rfl⟩
  have hgN : g < N := hN ▸ hg.lt
  rw [hN] at hl ⊢
  obtain ⟨n, hln⟩ : ∃ n, l.length = n := ⟨_, rfl⟩
  have HL : Hid (l.length = n) := hln
  have HG : Hid (Holds w g (flatR l) 28) := hg
  have HR : Hid (∀ p ∈ l, RingAt N w p.1 p.2) := hl
  rw [hln] at hn ⊢
  have hn' : (n : Int) ≤ 1000 := by omega
  clear hg hl hln hn
  go_enter Tryz.func10, Tryz.ntmps10
  go_wp2_with (first
    | (refine wpList_alloc_new 2 rfl rfl 28 rfl N hN _ zero28 ?_; intro w1 h1; have hmk := make55 w1; rw [h1.size] at hmk)
    | (refine wpList_alloc_new 4 rfl rfl 28 rfl (N + 2) (by rw [World.size_alloc, h1.size]) _ zero28 ?_; intro w3 h3))
  have b23 : Below (N + 1) w1 (w1.alloc (.map #[] 0)) := (Below.refl _ _).alloc (by rw [h1.size]; omega) _
  have b13 : Below (N + 1) w1 w3 := b23.trans (h3.below.mono (by omega))
  have b03 : Below N w w3 := h1.below.trans (b13.mono (by omega))
  have HB : Hid (Below N w w3) := b03
  have HK0 : Hid (KnAt w3 (N + 1) noK) := by
    have k0 := kn_made w1
    rw [h1.size] at k0
    exact k0.below h3.below (by omega)
  have HM0 : Hid (Holds w3 (N + 2) (ringC (.slice none 0 0) ([], noOs)) 28) := h3.holds
  have HO0 : Hid (Holds w3 N (ringC (.slice none 0 0) ([], noOs)) 28) := h1.holds.below b13 (by omega)
  have HZ : Hid (w3.heap.size = N + 3) := h3.size
  clear hmk h1 h3 b23 b13 b03
  go_loopw [10] (fun c wr => ∃ i : Nat, i ≤ n ∧ c = .int .i64 (i : Int) ∧ Hid (KnAt wr (N + 1) (mergeK ((l.map (·.2)).take i)) ∧ Holds wr (N + 2) (ringC (.slice none 0 0) ([], mergeO ((l.map (·.2)).take i))) 28 ∧ Outs (fun b => b = N + 1 ∨ b = N + 2) w3 wr)) (fun c _ => n - (intOf c).toNat)
  case atStart => exact ⟨0, Nat.zero_le _, rfl, HK0.out, HM0.out, Outs.refl _ _⟩
  case round =>
  obtain ⟨i, hi, rfl, hI⟩ := hrel
  by_cases hlt : i < n
  · have hlt' : (i : Int) < (n : Int) := by omega
    have hi0 : (0 : Int) ≤ (i : Int) := by omega
    obtain ⟨⟨v, r⟩, hp⟩ : ∃ p, l[i]? = some p := ⟨_, List.getElem?_eq_getElem (by rw [HL.out]; exact hlt)⟩
    have hpm : (v, r) ∈ l := List.mem_of_getElem? hp
    have hr : Hid (RingAt N w v r) := HR.out _ hpm
    have hrm : (l.map (·.2))[i]? = some r := by rw [List.getElem?_map, hp]; rfl
    have hstK : Hid (mergeK ((l.map (·.2)).take (i + 1)) = hearL (mergeK ((l.map (·.2)).take i)) r.1) := foldl_take_succ2 _ _ _ _ _ hrm
    have hstO : Hid (mergeO ((l.map (·.2)).take (i + 1)) = newestL (mergeO ((l.map (·.2)).take i)) r.2) := foldl_take_succ2 _ _ _ _ _ hrm
    have hrK : Hid (Right (mergeK ((l.map (·.2)).take i))) := mergeK_right _
    have hoL : Hid ((mergeO ((l.map (·.2)).take i)).length = 8) := mergeO_len _
    have hcell : Hid (∀ (j : Nat) u, (ringC v r)[j]? = some u → (flatR l)[i * 17 + j]? = some u) := fun j u hu => by
      have hj : j < 17 := by have := (List.getElem?_eq_some_iff.1 hu).1; rw [ringC_len hr.out] at this; exact this
      rw [flatR_cell (fun p hp => (HR.out p hp).own) hp j hj]; exact hu
    obtain ⟨hK, hO, hU⟩ := hI.out
    generalize mergeK ((l.map (·.2)).take i) = kk at *
    generalize mergeO ((l.map (·.2)).take i) = oo at *
    have hzr : N + 3 ≤ wr.heap.size := by have := hU.size; rw [HZ.out] at this; exact this
    have hGr : Holds wr g (flatR l) 28 := (HG.out.below HB.out hgN).outs hU (by omega)
    have hrr : RingAt N wr v r := hr.out.below (HB.out.trans (hU.below (by omega) (by rw [HZ.out]; omega)))
    have hrange : wr.rangeAt g (i * 17) (ringC v r) := hGr.range (i * 17) (ringC v r) hcell.out
    have HK : Hid (KnAt wr (N + 1) kk) := hK
    have HO : Hid (Holds wr (N + 2) (ringC (.slice none 0 0) ([], oo)) 28) := hO
    have HU : Hid (Outs (fun b => b = N + 1 ∨ b = N + 2) w3 wr) := hU
    have HRr : Hid (RingAt N wr v r) := hrr
    have hl17 := ringC_len hrr
    have hone := ringC_one hrr
    obtain ⟨va, vc, rfl⟩ := hrr.mem.len
    obtain ⟨M, hM⟩ : ∃ M, wr.heap.size = M := ⟨_, rfl⟩
    rw [hM] at hzr
    clear hI hK hO hU hGr hrr hp hpm hrm hcell
    have HHear : Hid (∀ W, Below M wr W → Calls Tryz.prog 34 #[.map (some (N + 1)), .slice va r.1.length vc] W fun e w' => e = .returned (.tuple #[]) ∧ KnAt w' (N + 1) (hearL kk r.1) ∧ Upd (N + 1) W w') := fun W hW => hear_any N r.1 _ kk (N + 1) W (HRr.out.mem.below (hW.mono (by omega))) (HK.out.below hW (by omega)) hrK.out (by omega)
    have HNew : Hid (∀ W, Calls Tryz.prog 35 #[.agg (ownV oo).toArray, .agg (ownV r.2).toArray] W fun e w' => e = .returned (.agg (ownV (newestL oo r.2)).toArray) ∧ Below W.heap.size W w') := fun W => newest_any oo r.2 hoL.out HRr.out.own W
    have ho16 : (ownV oo).length = 16 := by rw [ownV_len, hoL.out]
    have hr16 : (ownV r.2).length = 16 := by rw [ownV_len, HRr.out.own]
    have hn16 : (ownV (newestL oo r.2)).length = 16 := by rw [ownV_len, newestL_len]
    have hnone : ∀ u ∈ ownV (newestL oo r.2), u.oneCell' = true := ownV_one _
    have hcs0 : (ringC (.slice va r.1.length vc) r)[0]? = some (.slice va r.1.length vc) := rfl
    have hcs1 : Hid (∀ j u, (ownV r.2)[j]? = some u → (ringC (.slice va r.1.length vc) r)[1 + j]? = some u) := fun j u hu => by rw [Nat.add_comm 1 j]; exact hu
    generalize ringC (.slice va r.1.length vc) r = cs at *
    have hcs2 : Hid (∀ j u, (ownV oo)[j]? = some u → (ringC (.slice none 0 0) ([], oo))[1 + j]? = some u) := fun j u hu => by rw [Nat.add_comm 1 j]; exact hu
    have hov : overV (ringC (.slice none 0 0) ([], oo)) 1 (ownV (newestL oo r.2)) = ringC (.slice none 0 0) ([], newestL oo r.2) := overV_tail _ _ _ (by rw [hn16, ho16])
    have hl2 : (ringC (.slice none 0 0) ([], oo)).length = 17 := by unfold ringC; rw [List.length_cons, ho16]
    generalize ringC (.slice none 0 0) ([], oo) = ms at *
    obtain ⟨ms', hms⟩ : ∃ ms', ringC (.slice none 0 0) ([], newestL oo r.2) = ms' := ⟨_, rfl⟩
    rw [hms] at hov
    generalize ownV (newestL oo r.2) = on at *
    go_wp2_with (first
      | (refine wpList_load_part rfl 28 _ rfl g (i * 17) rfl cs _ hrange Tryz.underlying28 rfl (by rw [siz28, hl17]) ?_)
      | (refine wpList_alloc_new 6 rfl rfl 28 rfl M hM _ zero28 ?_; intro w4 h4)
      | (refine wpList_store_all rfl 28 (.tmp 6) (.tmp 13) rfl M rfl cs rfl 28 _ h4.holds (siz28.trans (congrArg some hl17.symm)) hl17.symm hone ?_; intro w5 h5; have b5 : Below M wr w5 := h4.below.trans (h5.below (Nat.le_refl _)); have hz5 : w5.heap.size = M + 1 := h5.size.trans h4.size; have p0 := h5.holds.at 0 _ hcs0)
      | (go_at_call 34; refine (HHear.out _ b5).mono ?_; rintro e w6 ⟨rfl, K6, U6⟩; have HM6 := h5.holds.upd U6 (by omega); have HO6 := ((HO.out.below b5 (by omega)).upd U6 (by omega)); have ra6 : w6.rangeAt (N + 2) 1 (ownV oo) := HO6.range 1 (ownV oo) hcs2.out; have rb6 : w6.rangeAt M 1 (ownV r.2) := HM6.range 1 (ownV r.2) hcs1.out)
      | (refine wpList_load_part rfl 26 _ rfl (N + 2) 1 rfl (ownV oo) _ ra6 und26 rfl (by rw [siz26, ho16]) ?_)
      | (refine wpList_load_part rfl 26 _ rfl M 1 rfl (ownV r.2) _ rb6 und26 rfl (by rw [siz26, hr16]) ?_)
      | (go_at_call 35; refine (HNew.out _).mono ?_; rintro e w7 ⟨rfl, b7⟩; have HO7 := HO6.below b7 HO6.lt)
      | (refine wpList_store_part rfl 26 (.tmp 23) (.tmp 22) rfl (N + 2) 1 rfl on rfl 28 ms HO7 (by rw [siz26, hn16]) (by rw [hl2, hn16]; omega) hnone ?_; intro w8 h8))
    have hz6 : M + 1 ≤ w6.heap.size := by have := U6.size; rw [hz5] at this; exact this
    have HO8 : Holds w8 (N + 2) ms' 28 := hov ▸ h8.holds
    have K8 : KnAt w8 (N + 1) (hearL kk r.1) := (K6.below b7 (by omega)).same (h8.others _ (by omega))
    have U8 : Outs (fun b => b = N + 1 ∨ b = N + 2) w3 w8 := (((HU.out.trans (Outs.ofBelow (hM ▸ b5))).trans (Outs.ofUpd U6 (Or.inl rfl))).trans (Outs.ofBelow b7)).trans (Outs.ofTurned h8 (Or.inr rfl))
    exact ⟨⟨i + 1, by omega, by go_num, by rw [hstK.out, hstO.out]; exact ⟨K8, hms ▸ HO8, U8⟩⟩, by simp [intOf]; omega⟩
  · have e8 : (l.map (·.2)).take i = l.map (·.2) := List.take_of_length_le (by rw [List.length_map, HL.out]; omega)
    rw [e8] at hI
    have i1 : ¬ (i : Int) < (n : Int) := by omega
    have HE : Hid (mergeL (l.map (·.2)) = (risL (mergeK (l.map (·.2))), mergeO (l.map (·.2)))) := rfl
    have hrK : Hid (Right (mergeK (l.map (·.2)))) := mergeK_right _
    have hoL : (mergeO (l.map (·.2))).length = 8 := mergeO_len _
    generalize mergeK (l.map (·.2)) = kk at *
    generalize mergeO (l.map (·.2)) = oo at *
    obtain ⟨hK, hO, hU⟩ := hI.out
    have HO : Hid (Holds wr (N + 2) (ringC (.slice none 0 0) ([], oo)) 28) := hO
    have HU : Hid (Outs (fun b => b = N + 1 ∨ b = N + 2) w3 wr) := hU
    have HRis : Hid (Calls Tryz.prog 36 #[.map (some (N + 1))] wr fun e w' => ∃ v, e = .returned v ∧ Mems w'.heap.size w' v (risL kk) ∧ (∀ g, v.ownBlock = some g → wr.heap.size ≤ g) ∧ Below wr.heap.size wr w') := rising_any (N + 1) kk hrK.out wr hK
    have hzr : N + 3 ≤ wr.heap.size := by have := hU.size; rw [HZ.out] at this; exact this
    have ho16 : (ownV oo).length = 16 := by rw [ownV_len, hoL]
    clear hI hK hO hU
    have hset : Hid (∀ x : Value, (ringC (.slice none 0 0) ([], oo)).set 0 x = ringC x (risL kk, oo)) := fun x => rfl
    have hl0 : (ringC (.slice none 0 0) ([], oo))[0]? = some (.slice none 0 0) := rfl
    have hl17 : Hid (∀ x : Value, (ringC x (risL kk, oo)).length = 17) := fun x => by show (x :: ownV oo).length = 17; rw [List.length_cons, ho16]
    have hone : Hid (∀ x : Value, x.oneCell' = true → ∀ u ∈ ringC x (risL kk, oo), u.oneCell' = true) := fun x hx u hu => by
      rcases List.mem_cons.1 hu with rfl | hu
      · exact hx
      · exact ownV_one _ u hu
    generalize ringC (.slice none 0 0) ([], oo) = ms at *
    go_wp2_with (first
      | (go_at_call 36; refine HRis.out.mono ?_; rintro e w4 ⟨v, rfl, M4, f4, b4⟩; have HO4 := HO.out.below b4 (by omega); have hv1 := mems_one M4; obtain ⟨va, vc, rfl⟩ := M4.len; have q0 := HO4.at 0 _ hl0; have qf := HO4.frozen 0; have H5 := HO4.set 0 (.slice va (risL kk).length vc); have hl18 := hl17.out (.slice va (risL kk).length vc); have hon := hone.out _ hv1; rw [hset.out] at H5; have HR4 := ((HO0.out.outs HU.out (by omega)).below b4 (by omega)).setOther (N + 2) 0 (.slice va (risL kk).length vc) (by omega); obtain ⟨cs, hcs⟩ : ∃ cs, ringC (.slice va (risL kk).length vc) (risL kk, oo) = cs := ⟨_, rfl⟩; rw [hcs] at H5 hl18 hon)
      | (refine wpList_load_row rfl 28 _ rfl (N + 2) rfl 28 cs.toArray (0, 0) _ H5 Tryz.underlying28 rfl (by rw [siz28, List.size_toArray, hl18]) ?_)
      | (refine wpList_store_all rfl 28 (.tmp 2) (.tmp 28) rfl N rfl cs rfl 28 _ HR4 (by rw [siz28, hl18]) (by rw [hl18]; rfl) hon ?_; intro w6 h6))
    refine bodyPost_ret (results_cell_row (p := 2) (by kernel_rfl) _ w6 N 28 cs.toArray (0, 0) _ rfl h6.holds Tryz.underlying28 rfl (by rw [siz28, List.size_toArray, hl18])) rfl ?_
    rw [HE.out, ← hcs]
    have b46 : Outs (fun b => b = N ∨ b = N + 2) w4 w6 := (Outs.ofTurned (turned_set HO4 0 (.slice va (risL kk).length vc)) (Or.inr rfl)).trans (Outs.ofTurned h6 (Or.inl rfl))
    have b36 : Below N w3 w6 := ((HU.out.below (by omega) (by rw [HZ.out]; omega)).trans (b4.mono (by omega))).trans (b46.below (by omega) (by have := b4.size; omega))
    exact ⟨_, rfl, ⟨(M4.outs b46 (Nat.le_refl _) (fun g hg => by have := f4 g hg; omega)).mono b46.size, hoL⟩, fun g hg => Nat.le_trans (by omega) (f4 g hg), HB.out.trans b36⟩
end Go.Proofs.YthmnjebmnocoiaaGreat

/- What package gossip's Norm tells. -/
namespace Go.Proofs.YthmnjebmnocoiaaGreat
open Go.RowKit

theorem flatR_one (v : Value) (r : Rg) : flatR [(v, r)] = ringC v r := by simp [flatR]
set_option maxRecDepth 100000 in
set_option maxHeartbeats 1000000 in
theorem norm_any (v : Value) (r : Rg) (w : World) (h : RingAt w.heap.size w v r) :
    Calls Tryz.prog 8 #[ringV v r] w fun e w' => ∃ u, e = .returned (ringV u (normL r)) ∧ RingAt w'.heap.size w' u (normL r) ∧ Fresh w.heap.size u ∧ Below w.heap.size w w' := by
  obtain ⟨N, hN⟩ : ∃ N, w.heap.size = N := ⟨_, rfl⟩
  have HR : Hid (RingAt N w v r) := hN ▸ h
  have hl17 := ringC_len h
  rw [hN]
  have HC : Hid (∀ W g, Holds W g (ringC v r) 28 → RingAt W.heap.size W v r → Calls Tryz.prog 10 #[.slice (some ⟨g, 0, none⟩) 1 1] W fun e w' => ∃ u ds, e = .returned (.agg ds.toArray) ∧ Hid (ds = ringC u (normL r)) ∧ RingAt w'.heap.size w' u (normL r) ∧ Fresh W.heap.size u ∧ Below W.heap.size W w') := fun W g hg hr => (merge_any [(v, r)] g W (by rw [flatR_one]; exact hg) (by intro p hp; simp at hp; subst hp; exact hr) (by simp)).mono fun e w' ⟨u, h1, h2⟩ => ⟨u, _, h1, rfl, h2⟩
  show Calls Tryz.prog 8 #[.agg (ringC v r).toArray] w _
  generalize ringC v r = cs at *
  clear h
  go_enter Tryz.func8, Tryz.ntmps8
  go_wp2_with (first
    | (refine wpList_box_new 1 rfl rfl 28 _ rfl N hN _ rfl ?_; intro w1 h1)
    | (refine wpList_alloc_new 2 rfl rfl 28 rfl (N + 1) h1.size _ zero28 ?_; intro w2 h2; have H2 := h1.holds.below h2.below (by omega); have hz2 := h2.size)
    | (refine wpList_load_row rfl 28 _ rfl N rfl 28 cs.toArray (0, 0) _ H2 Tryz.underlying28 rfl (siz28.trans (congrArg some hl17.symm)) ?_)
    | (refine wpList_rings 4 rfl rfl 1 _ rfl [cs] rfl (all1 hl17) (by decide) (by decide) rfl cs (flat1 cs) (N + 2) hz2 ?_; intro w3 h3; have hz3 := h3.size; have b3 : Below N w w3 := (h1.below.trans (h2.below.mono (by omega))).trans (h3.below.mono (by omega)); have hz3' : N ≤ w3.heap.size := (by omega); have HR3 := (HR.out.below b3).mono hz3')
    | (go_at_call 10; refine (HC.out w3 (N + 2) h3.holds HR3).mono ?_; rintro e w4 ⟨u, ds, rfl, hds, R4, f4, b4⟩; have HN4 := (h2.holds.below h3.below (by omega)).below b4 (by omega); have hz4 := ringC_len R4; have ho4 := ringC_one R4; rw [← hds.out] at hz4 ho4)
    | (refine wpList_store_all rfl 28 (.tmp 2) (.tmp 5) rfl (N + 1) rfl ds rfl 28 _ HN4 (siz28.trans (congrArg some hz4.symm)) hz4.symm ho4 ?_; intro w5 h5))
  refine bodyPost_ret (results_cell_row (p := 2) (by kernel_rfl) _ w5 (N + 1) 28 ds.toArray (0, 0) _ rfl h5.holds Tryz.underlying28 rfl (siz28.trans (congrArg some (show ds.length = 17 from hz4).symm))) rfl ?_
  rw [hds.out]
  have hU : Outs (fun b => b = N + 1) w4 w5 := Outs.ofTurned h5 rfl
  exact ⟨u, rfl, (R4.outs f4 hU (Nat.le_refl _) (by omega)).mono hU.size, f4.mono (by omega), (b3.trans (b4.mono (by omega))).trans (h5.below (by omega))⟩
end Go.Proofs.YthmnjebmnocoiaaGreat

/- What package gossip's State and oneMore tell. -/
namespace Go.Proofs.YthmnjebmnocoiaaGreat
open Go.RowKit

def stateL (r : Rg) (n : Int) : Int := (bestL r.1 n).2.1
def moreN (v : Nat) : Nat := if v = 18446744073709551615 then v else v + 1
theorem oneMore_any (v : Nat) (hv : v < 18446744073709551616) (w : World) : Calls Tryz.prog 43 #[.int .u64 (v : Int)] w fun e w' => e = .returned (.int .u64 (moreN v : Int)) ∧ w' = w := by
  unfold moreN
  by_cases h : v = 18446744073709551615
  · subst h
    go_enter Tryz.func43, Tryz.ntmps43
    go_wp2
    go_ret
    simp
  · rw [if_neg h]
    have h' : ((v : Int) == 18446744073709551615) = false := by simp; omega
    have h2 : ¬ (v : Int) = 18446744073709551615 := by omega
    have hv1 : (v : Int) + 1 < 18446744073709551616 := by omega
    go_enter Tryz.func43, Tryz.ntmps43
    go_wp2
    go_ret
    refine ⟨?_, rfl⟩
    exact ret_int (by simp)
theorem run_field35 (W : World) (m : Mb) : (Instr.field 53 (.agg (mbV m).toArray) 1).run Tryz.prog W = .ok (.int .i64 m.2.1) W := by
  obtain ⟨a, b, c⟩ := m
  kernel_rfl
theorem run_field35v (W : World) (m : Mb) : (Instr.field 53 (.agg (mbV m).toArray) 2).run Tryz.prog W = .ok (.int .u64 (m.2.2 : Int)) W := by
  obtain ⟨a, b, c⟩ := m
  kernel_rfl
set_option maxRecDepth 100000 in
set_option maxHeartbeats 1000000 in
theorem state_any (v : Value) (r : Rg) (n : Int) (hn : I64 n) (w : World) (h : RingAt w.heap.size w v r) :
    Calls Tryz.prog 26 #[ringV v r, .int .i64 n] w fun e w' => e = .returned (.int .i64 (stateL r n)) ∧ Below w.heap.size w w' := by
  obtain ⟨N, hN⟩ : ∃ N, w.heap.size = N := ⟨_, rfl⟩
  have HR : Hid (RingAt N w v r) := hN ▸ h
  rw [hN]
  obtain ⟨va, vc, rfl⟩ := h.mem.len
  have HC : Hid (∀ W mb, Mems N W (.slice va r.1.length vc) r.1 → KnAt W mb noK → N ≤ mb → Calls Tryz.prog 34 #[.map (some mb), .slice va r.1.length vc] W fun e w' => e = .returned (.tuple #[]) ∧ KnAt w' mb (bestL r.1) ∧ Upd mb W w') := fun W mb h1 h2 h3 => hear_any N r.1 _ noK mb W h1 h2 noK_right h3
  have hbr : Hid (Right (bestL r.1)) := bestL_right r.1
  have hcs0 : (ringC (.slice va r.1.length vc) r)[0]? = some (.slice va r.1.length vc) := rfl
  unfold stateL
  show Calls Tryz.prog 26 #[.agg (ringC (.slice va r.1.length vc) r).toArray, .int .i64 n] w _
  generalize ringC (.slice va r.1.length vc) r = cs at *
  generalize bestL r.1 = kk at *
  clear h
  go_enter Tryz.func26, Tryz.ntmps26
  go_wp2_with (first
    | (refine wpList_box_new 2 rfl rfl 28 _ rfl N hN _ rfl ?_; intro w1 h1; have hmk := make55 w1; rw [h1.size] at hmk; have c0 := (h1.holds.alloc (.map #[] 0)).at 0 _ hcs0; have b2 : Below N w (w1.alloc (.map #[] 0)) := h1.below.alloc (by rw [h1.size]; omega) _; have k2 := kn_made w1; rw [h1.size] at k2; have HR2 := HR.out.mem.below b2; have hle : N ≤ N + 1 := Nat.le_succ N)
    | (go_at_call 34; refine (HC.out _ _ HR2 k2 hle).mono ?_; rintro e w3 ⟨rfl, K3, U3⟩; have hlk := K3.look hbr.out n hn; have hf := run_field35 w3 (kk n); generalize (mbV (kk n)).toArray = mv at hlk hf; generalize hst : (kk n).2.1 = st at hf))
  go_ret
  rw [hst]
  exact ⟨rfl, b2.trans (U3.below hle (by rw [World.size_alloc, h1.size]; omega))⟩
end Go.Proofs.YthmnjebmnocoiaaGreat
