/- settle (32). -/
import Derived.Test.YtmhpfncbbboamaaGreatQmReg
import Derived.Deep.Cut
namespace Go.Proofs.YtmhpfncbbboamaaGreat
open Go.RowKit

/-- All blocks but two are as they were. -/
structure Two (b g : Nat) (w w' : World) : Prop where
  os : w'.os = w.os
  tape : w'.tape = w.tape
  output : w'.output = w.output
  size : w.heap.size ≤ w'.heap.size
  block : ∀ i, i < w.heap.size → i ≠ b → i ≠ g → w'.heap[i]? = w.heap[i]?
theorem Two.refl (b g : Nat) (w : World) : Two b g w w := ⟨rfl, rfl, rfl, Nat.le_refl _, fun _ _ _ _ => rfl⟩
theorem Two.trans {b g : Nat} {x y z : World} (h : Two b g x y) (k : Two b g y z) : Two b g x z :=
  ⟨k.os.trans h.os, k.tape.trans h.tape, k.output.trans h.output, Nat.le_trans h.size k.size, fun i hi h1 h2 => (k.block i (Nat.lt_of_lt_of_le hi h.size) h1 h2).trans (h.block i hi h1 h2)⟩
theorem Two.ofGr {b g : Nat} {w w' : World} (h : Gr w w') : Two b g w w' := ⟨h.os, h.tape, h.output, h.size, fun i hi _ _ => Below.block h i hi⟩
theorem Two.ofTurned {b g : Nat} {w w' : World} {cs : List Value} {t : TypeId} (h : Turned b w w' cs t) : Two b g w w' := ⟨h.os, h.tape, h.output, Nat.le_of_eq h.size.symm, fun i _ hb _ => h.others i hb⟩
theorem Two.swap {b g : Nat} {w w' : World} (h : Two b g w w') : Two g b w w' := ⟨h.os, h.tape, h.output, h.size, fun i hi h1 h2 => h.block i hi h2 h1⟩
def addK (k j : Nat) (n d : Int) : Int := if k = j then wrap64 (n + d) else n
theorem over2 (v mv : Value) (n0 p0 n1 p1 n2 p2 A P : Int) (rest : List Value) : overV (cnC v mv n0 p0 n1 p1 n2 p2 rest) 2 [.int .i64 A, .int .i64 P] = cnC v mv A P n1 p1 n2 p2 rest := rfl
theorem overk (v mv : Value) (n0 p0 n1 p1 n2 p2 d : Int) (rest : List Value) (k : Nat) (hk : k = 1 ∨ k = 2) (nk pk : Int) (hn1 : k = 1 → nk = n1) (hp1 : k = 1 → pk = p1) (hn2 : k = 2 → nk = n2) (hp2 : k = 2 → pk = p2) : overV (cnC v mv n0 p0 n1 p1 n2 p2 rest) (2 + 2 * k) [.int .i64 (wrap64 (nk + 1)), .int .i64 (wrap64 (pk + d))] = cnC v mv n0 p0 (addK k 1 n1 1) (addK k 1 p1 d) (addK k 2 n2 1) (addK k 2 p2 d) rest := by
  rcases hk with h | h
  · subst h
    rw [hn1 rfl, hp1 rfl]; rfl
  · subst h
    rw [hn2 rfl, hp2 rfl]; rfl
theorem gs_range {w : World} {g o : Nat} {gs : List Value} {tg : TypeId} {x f s : Int} (hG : Holds w g gs tg) (h0 : gs[o]? = some (.int .i64 x)) (h1 : gs[o + 1]? = some (.int .i64 f)) (h2 : gs[o + 2]? = some (.int .i64 s)) : ∀ y, Gr w y → y.rangeAt g o [.int .i64 x, .int .i64 f, .int .i64 s] := fun y hy =>
  (hG.below hy hG.lt).range o _ (fun j u hj => by
    match j, hj with
    | 0, h => rw [← h]; exact h0
    | 1, h => rw [← h]; exact h1
    | 2, h => rw [← h]; exact h2)
set_option maxRecDepth 100000 in
theorem settle_any (b g o k : Nat) (hk : k = 1 ∨ k = 2) (hne : g ≠ b) (v mv : Value) (n0 p0 n1 p1 n2 p2 : Int) (rest : List Value) (ty : TypeId) (gs : List Value) (tg : TypeId) (x f s : Int) (w : World) (hH : Holds w b (cnC v mv n0 p0 n1 p1 n2 p2 rest) ty) (hG : Holds w g gs tg) (h0 : gs[o]? = some (.int .i64 x)) (h1 : gs[o + 1]? = some (.int .i64 f)) (h2 : gs[o + 2]? = some (.int .i64 s)) :
    Calls Tryz.prog 32 #[.pointer (some ⟨b, 0, none⟩), .pointer (some ⟨g, o, none⟩), .int .i64 (k : Int)] w fun e w' => e = .returned (.tuple #[]) ∧ Holds w' b (cnC v mv (wrap64 (n0 - 1)) (wrap64 (p0 - prI x f)) (addK k 1 n1 1) (addK k 1 p1 (prI x f)) (addK k 2 n2 1) (addK k 2 p2 (prI x f)) rest) ty ∧ Holds w' g (gs.set (o + 2) (.int .i64 (k : Int))) tg ∧ Two b g w w' := by
  have HS := gs_range hG h0 h1 h2
  obtain ⟨nk, pk, hn1, hp1, hn2, hp2⟩ : ∃ nk pk : Int, (k = 1 → nk = n1) ∧ (k = 1 → pk = p1) ∧ (k = 2 → nk = n2) ∧ (k = 2 → pk = p2) := by
    rcases hk with h | h
    · exact ⟨n1, p1, fun _ => rfl, fun _ => rfl, fun q => by omega, fun q => by omega⟩
    · exact ⟨n2, p2, fun q => by omega, fun q => by omega, fun _ => rfl, fun _ => rfl⟩
  go_enter Tryz.func32, Tryz.ntmps32
  go_upto_region 0 with fail
  refine r32_0 rfl b g o v mv n0 p0 n1 p1 n2 p2 rest ty hH x f s HS rfl rfl (fun z w1 hz hT => ?_)
  rw [over2] at hT
  have hG1 : Holds w1 g gs tg := by
    unfold Holds
    rw [hT.others g hne]
    exact hG.below hz hG.lt
  have t1 : Two b g w w1 := (Two.ofGr hz).trans (Two.ofTurned hT)
  simp only [putsL, List.foldl_cons, List.foldl_nil, put_lit, List.set_cons_succ, List.set_cons_zero]
  go_upto_region 1 with fail
  refine r32_1 rfl b g o k hk nk pk v mv _ _ n1 p1 n2 p2 rest ty hT.holds x f s (gs_range hG1 h0 h1 h2) hn1 hp1 hn2 hp2 rfl rfl rfl (fun z2 w2 hz2 hT2 => ?_)
  rw [overk _ _ _ _ _ _ _ _ _ _ k hk nk pk hn1 hp1 hn2 hp2] at hT2
  have hG2 : Holds w2 g gs tg := by
    unfold Holds
    rw [hT2.others g hne]
    exact hG1.below hz2 hG1.lt
  have t2 : Two b g w w2 := t1.trans ((Two.ofGr hz2).trans (Two.ofTurned hT2))
  have c2 := hG2.at (o + 2) _ h2
  have f2 := hG2.frozen (o + 2)
  have hB2 : Hid (Holds w2 b (cnC v mv (wrap64 (n0 - 1)) (wrap64 (p0 - prI x f)) (addK k 1 n1 1) (addK k 1 p1 (prI x f)) (addK k 2 n2 1) (addK k 2 p2 (prI x f)) rest) ty) := hT2.holds
  have hGG : Hid (Holds w2 g gs tg) := hG2
  have hTT : Hid (Two b g w w2) := t2
  simp only [putsL, List.foldl_cons, List.foldl_nil, put_lit, List.set_cons_succ, List.set_cons_zero]
  clear hT hT2 t1 t2 hG1 hG2 HS hn1 hn2 hp1 hp2 hz hz2 hH hG
  go_wp2
  refine bodyPost_end (results_none (by kernel_rfl) _ _ _) rfl ⟨rfl, hB2.out.setOther g (o + 2) _ (fun e => hne e.symm), hGG.out.set (o + 2) _, hTT.out.trans ⟨rfl, rfl, rfl, by simp, fun i _ _ hg => heap_setCell_other _ _ _ _ hg⟩⟩
end Go.Proofs.YtmhpfncbbboamaaGreat
