/- Clocks in memory; dots (44) and its function (56): the dots of all clocks, those of N 0 left out, one by one. -/
import Derived.RangeFuncNested
import Derived.RangeFuncBound
import Derived.RangeFuncCalls
import Derived.RangeFuncLeaves
import Derived.RangeFuncBox
import Derived.Shelf.Abstract
import Derived.Shelf.RegionOpen
import Derived.WalkKit
import Derived.OwnWalkIn
import Derived.TacticsInMore
import Derived.LoopNIn
import Derived.LoopIn
import Derived.Test.YtmhpfncbbboamaaGreatProg
import Derived.Test.YtmhpfncbbboamaaGreatQmSmall
namespace Go.Proofs.YtmhpfncbbboamaaGreat
open Go.RowKit Go.Shelf
attribute [local go_sem] Oper.semAt_some

abbrev Dt := Nat × Nat
def posD (l : List Dt) : List Dt := l.filter (fun d => 0 < d.2)
theorem posD_append (l m : List Dt) : posD (l ++ m) = posD l ++ posD m := by simp [posD]
abbrev dotV (d : Dt) : Value := .agg #[.int .u64 (d.1 : Int), .int .u64 (d.2 : Int)]
/-- From cell o of block b on lie the dots l. -/
def Row (w : World) (b o : Nat) (l : List Dt) : Prop := ∀ i d, l[i]? = some d → w.cell? ⟨b, o + i * 2, none⟩ = some (.int .u64 (d.1 : Int)) ∧ w.cell? ⟨b, o + i * 2 + 1, none⟩ = some (.int .u64 (d.2 : Int))
/-- What a call may not have turned: the blocks of which G tells. -/
structure Kp (G : Nat → Prop) (w w' : World) : Prop where
  os : w'.os = w.os
  tape : w'.tape = w.tape
  output : w'.output = w.output
  size : w.heap.size ≤ w'.heap.size
  block : ∀ k, G k → w'.heap[k]? = w.heap[k]?
theorem Kp.refl (G : Nat → Prop) (w : World) : Kp G w w := ⟨rfl, rfl, rfl, Nat.le_refl _, fun _ _ => rfl⟩
theorem Kp.trans {G : Nat → Prop} {a b c : World} (h : Kp G a b) (k : Kp G b c) : Kp G a c :=
  ⟨k.os.trans h.os, k.tape.trans h.tape, k.output.trans h.output, Nat.le_trans h.size k.size, fun i hi => (k.block i hi).trans (h.block i hi)⟩
theorem Kp.ofBelow {G : Nat → Prop} {n : Nat} {w w' : World} (h : Below n w w') (hG : ∀ k, G k → k < n) : Kp G w w' := ⟨h.os, h.tape, h.output, h.size, fun k hk => h.block k (hG k hk)⟩
theorem Kp.below {G : Nat → Prop} {n : Nat} {w w' : World} (h : Kp G w w') (hG : ∀ k, k < n → G k) : Below n w w' := ⟨h.os, h.tape, h.output, h.size, fun k hk => h.block k (hG k hk)⟩
theorem Kp.cell {G : Nat → Prop} {w w' : World} (h : Kp G w w') {p : Addr} (hp : G p.block) : w'.cell? p = w.cell? p := World.cell?_of_block (h.block _ hp)
theorem Kp.alloc {G : Nat → Prop} {w w' : World} (h : Kp G w w') (hG : ∀ k, G k → k < w.heap.size) (o : Obj) : Kp G w (w'.alloc o) :=
  h.trans (Kp.ofBelow ((Below.refl w'.heap.size w').alloc (Nat.le_refl _) o) (fun k hk => Nat.lt_of_lt_of_le (hG k hk) h.size))
theorem Kp.setCell {G : Nat → Prop} {w w' : World} (h : Kp G w w') (b i : Nat) (v : Value) (hb : ¬ G b) : Kp G w (w'.setCell ⟨b, i, none⟩ v) :=
  h.trans ⟨rfl, rfl, rfl, by simp, fun k hk => heap_setCell_other w' ⟨b, i, none⟩ k v (fun e => hb (by have e : k = b := e; rw [← e]; exact hk))⟩
theorem Kp.drew {G : Nat → Prop} {w w' : World} (h : Kp G w w') : Kp G w w'.drew := ⟨h.os, h.tape, h.output, h.size, h.block⟩
theorem kp_t {G : Nat → Prop} {A B C : World} (h : Kp G A B) (k : Kp G B C) : Kp G A C := h.trans k
theorem kp_b {G : Nat → Prop} {w : World} (hG : ∀ k, G k → k < w.heap.size) (W : World) (l : Nat) (o o' : Obj) (hl : w.heap.size ≤ l) (h : W.heap[l]? = some o) (hc : o.isCells = false) (hw : o.isWalk = false) : Kp G W (W.putObj l o') :=
  Kp.ofBelow (belowK_b (w := w) (Nat.le_refl _) W l o o' hl h hc hw) hG

theorem Row.keep {G : Nat → Prop} {w w' : World} {b o : Nat} {l : List Dt} (h : Row w b o l) (hb : Kp G w w') (hn : G b) : Row w' b o l := fun i d e =>
  ⟨(hb.cell (p := ⟨b, o + i * 2, none⟩) hn).trans (h i d e).1, (hb.cell (p := ⟨b, o + i * 2 + 1, none⟩) hn).trans (h i d e).2⟩
/-- v is a slice of the dots l, which lie where G says. -/
def Clk (G : Nat → Prop) (w : World) (v : Value) (l : List Dt) : Prop := ∃ a cap, v = .slice a l.length cap ∧ (l ≠ [] → ∃ b o, a = some ⟨b, o, none⟩ ∧ G b ∧ Row w b o l)
theorem Clk.keep {G : Nat → Prop} {w w' : World} {v : Value} {l : List Dt} (h : Clk G w v l) (hb : Kp G w w') : Clk G w' v l := by
  obtain ⟨a, cap, rfl, h⟩ := h
  exact ⟨a, cap, rfl, fun g => by obtain ⟨b, o, e, hn, hr⟩ := h g; exact ⟨b, o, e, hn, hr.keep hb hn⟩⟩
theorem Clk.mono {G H : Nat → Prop} {w : World} {v : Value} {l : List Dt} (h : Clk G w v l) (hm : ∀ k, G k → H k) : Clk H w v l := by
  obtain ⟨a, cap, rfl, h⟩ := h
  exact ⟨a, cap, rfl, fun g => by obtain ⟨b, o, e, hn, hr⟩ := h g; exact ⟨b, o, e, hm _ hn, hr⟩⟩
theorem Clk.nil (G : Nat → Prop) (w : World) (a : Option Addr) (cap : Nat) : Clk G w (.slice a 0 cap) [] := ⟨a, cap, rfl, fun h => absurd rfl h⟩
/-- v is a slice of clocks. -/
def Clks (G : Nat → Prop) (w : World) (v : Value) (ls : List (List Dt)) : Prop := ∃ a cap, v = .slice a ls.length cap ∧ ∀ i l, ls[i]? = some l → ∃ b o u, a = some ⟨b, o, none⟩ ∧ G b ∧ w.cell? ⟨b, o + i, none⟩ = some u ∧ Clk G w u l
theorem Clks.keep {G : Nat → Prop} {w w' : World} {v : Value} {ls : List (List Dt)} (h : Clks G w v ls) (hb : Kp G w w') : Clks G w' v ls := by
  obtain ⟨a, cap, rfl, h⟩ := h
  exact ⟨a, cap, rfl, fun i l e => by obtain ⟨b, o, u, e, hn, hc, hk⟩ := h i l e; exact ⟨b, o, u, e, hn, (hb.cell (p := ⟨b, o + i, none⟩) hn).trans hc, hk.keep hb⟩⟩
def allD (ls : List (List Dt)) : List Dt := ls.flatMap posD

theorem take_posD {l : List Dt} {k : Nat} {d : Dt} (h : l[k]? = some d) : posD (l.take (k + 1)) = posD (l.take k) ++ (if 0 < d.2 then [d] else []) := by
  rw [List.take_add_one, h]
  simp only [posD, List.filter_append, Option.toList]
  congr 1
  simp only [List.filter_cons, List.filter_nil]
  split <;> simp_all
theorem take_allD {ls : List (List Dt)} {k : Nat} {l : List Dt} (h : ls[k]? = some l) : allD (ls.take (k + 1)) = allD (ls.take k) ++ posD l := by
  rw [List.take_add_one, h]
  simp [allD]

set_option maxRecDepth 100000 in
set_option maxHeartbeats 2000000 in
theorem dots1_in (F : Fence) (n : Nat) (h55 : F.fn 56) (hro : F.round = none) (hn : 1 ≤ n) (l Bn : Nat) (G : Nat → Prop) (v : Value) (ls : List (List Dt)) (hlen : ls.length < 9223372036854775807) (hlens : ∀ c ∈ ls, c.length < 9223372036854775807) (J Jx : List Dt → World → Prop) (Px : Dt → Prop) (hP : ∀ d ∈ allD ls, Px d)
    (W : World) (hJ : AbidesFrom W.heap.size J) (hG : ∀ k, G k → k < W.heap.size)
    (hY : ∀ pre x W, Px x → J pre W → pre.length < (allD ls).length → YieldAt F (n - 1) Tryz.prog l #[dotV x] W fun e W' =>
      (e = .returned (.bool true) ∧ J (pre ++ [x]) W' ∧ Kp G W W') ∨ (e = .returned (.bool false) ∧ Jx (pre ++ [x]) W'))
    (hBn : W.cell? ⟨Bn, 0, none⟩ = some v) (hL : Clks G W v ls) (h0 : J [] W) :
    CallsIn F n Tryz.prog 56 #[.func (.yield l) #[] #[], .pointer (some ⟨Bn, 0, none⟩)] W fun e W' => (∃ v, e = .returned v) ∧
      ((∃ ys, ys = allD ls ∧ J ys W') ∨ (∃ pre, pre <+: allD ls ∧ Jx pre W')) := by
  obtain ⟨a, cap, rfl, hL⟩ := hL
  refine callsIn_of_wp Tryz.func56 rfl h55 ?_ hro
  simp only [Tryz.ntmps56, List.size_toArray, List.length_cons, List.length_nil, Nat.reduceAdd, Nat.reduceSub, Array.replicate_succ, Array.replicate_zero, List.push_toArray, List.append_toArray, List.nil_append, List.cons_append]
  gi_wp2
  gi_loopw [9] (fun p wr => ∃ k : Nat, k ≤ ls.length ∧ p = .int .i64 (k : Int) ∧ Kp G W wr ∧ J (allD (ls.take k)) wr)
    (fun p _ => ls.length - (intOf p).toNat)
  case atStart =>
    exact ⟨0, Nat.zero_le _, rfl, Kp.refl _ _, by simpa [allD] using h0⟩
  case round =>
    obtain ⟨k, hk, rfl, hB, hJk⟩ := hrel
    rcases Nat.lt_or_ge k ls.length with hlt | hge
    · have hget : ls[k]? = some ls[k] := List.getElem?_eq_getElem hlt
      obtain ⟨b, o, u, rfl, hb, hc, hcl⟩ := hL k _ hget
      have hmem : ls[k] ∈ ls := List.getElem_mem hlt
      have hlk := hlens _ hmem
      have hallk := take_allD hget
      have hpre : allD (ls.take (k + 1)) <+: allD ls := ⟨allD (ls.drop (k + 1)), by rw [allD, allD, allD, ← List.flatMap_append, List.take_append_drop]⟩
      obtain ⟨c, hcE⟩ : ∃ c, ls[k] = c := ⟨_, rfl⟩
      rw [hcE] at hcl hlk hallk
      have hcW : wr.cell? ⟨b, o + k, none⟩ = some u := (hB.cell (p := ⟨b, o + k, none⟩) hb).trans hc
      obtain ⟨a2, cap2, rfl, hrow⟩ := hcl
      gi_wp2
      gi_loopw [15] (fun p wq => ∃ j : Nat, j ≤ c.length ∧ p = .int .i64 (j : Int) ∧ Kp G W wq ∧ J (allD (ls.take k) ++ posD (c.take j)) wq)
        (fun p _ => c.length - (intOf p).toNat)
      case atStart =>
        exact ⟨0, Nat.zero_le _, rfl, hB, by simpa [posD] using hJk⟩
      case round =>
        obtain ⟨j, hj, rfl, hBq, hJq⟩ := hrel
        rcases Nat.lt_or_ge j c.length with jlt | jge
        · have hgj : c[j]? = some c[j] := List.getElem?_eq_getElem jlt
          obtain ⟨b2, o2, rfl, hb2, hrow2⟩ := hrow (by intro e; rw [e] at jlt; simp at jlt)
          have htk := take_posD hgj
          have hr2 := (hrow2.keep hBq hb2) j _ hgj
          obtain ⟨d, hd⟩ : ∃ d, c[j] = d := ⟨_, rfl⟩
          rw [hd] at hr2 htk hgj
          obtain ⟨e1, e2⟩ := hr2
          have m0 : (wr.alloc (.cells #[.int .u64 (d.1 : Int), .int .u64 (d.2 : Int)] 105)).cell? ⟨wr.heap.size, 0, none⟩ = some (.int .u64 (d.1 : Int)) := (holds_new wr [.int .u64 (d.1 : Int), .int .u64 (d.2 : Int)] 105).at 0 _ rfl
          have m1 : (wr.alloc (.cells #[.int .u64 (d.1 : Int), .int .u64 (d.2 : Int)] 105)).cell? ⟨wr.heap.size, 1, none⟩ = some (.int .u64 (d.2 : Int)) := (holds_new wr [.int .u64 (d.1 : Int), .int .u64 (d.2 : Int)] 105).at 1 _ rfl
          have hJ2 := hJ _ _ (wr.alloc (.cells #[.int .u64 (d.1 : Int), .int .u64 (d.2 : Int)] 105)) none hJq (World.grownBy_alloc _ _ _) (fun r e => by cases e)
          have hB2 : Kp G W (wr.alloc (.cells #[.int .u64 (d.1 : Int), .int .u64 (d.2 : Int)] 105)) := hBq.alloc hG _
          clear hL hrow hrow2 hBn hcW hc h0 hJk hget hB
          by_cases hp : 0 < d.2
          · have hp' : (0 : Int) < (d.2 : Int) := by omega
            obtain ⟨fn, tmps, assign, body, hy, hR⟩ := hY _ d _ (hP d (by
              obtain ⟨t, ht⟩ := hpre
              rw [← ht, hallk]
              refine List.mem_append_left _ (List.mem_append_right _ ?_)
              exact List.mem_filter.2 ⟨List.mem_of_getElem? hgj, by simpa using hp⟩)) hJ2 (by
              obtain ⟨t, ht⟩ := hpre
              have h1 : (posD (c.take (j + 1))).length ≤ (posD c).length := (List.Sublist.filter _ (List.take_sublist _ _)).length_le
              rw [if_pos hp] at htk
              rw [htk] at h1
              rw [← ht, hallk]
              simp only [List.length_append, List.length_cons, List.length_nil] at h1 ⊢
              omega)
            rw [if_pos hp] at htk
            gi_wp2
            refine hR.mono ?_
            rintro e W3 (⟨rfl, hJ3, hk3⟩ | ⟨rfl, hJx3⟩)
            · gi_wp2
              go_roundw
              case rel => exact ⟨j + 1, by omega, by simp, hB2.trans hk3, by rw [htk, ← List.append_assoc]; exact hJ3⟩
              case measure => simp; omega
            · gi_wp2
              refine bodyPost_ret (results_none rfl _ _ _) rfl ?_
              refine ⟨⟨_, rfl⟩, .inr ⟨_, ?_, hJx3⟩⟩
              obtain ⟨t, ht⟩ := hpre
              refine ⟨posD (c.drop (j + 1)) ++ t, ?_⟩
              rw [← ht, hallk, List.append_assoc (allD (ls.take k)), ← htk, ← List.append_assoc, List.append_assoc (allD (ls.take k)), ← posD_append, List.take_append_drop]
          · have hp' : ¬ (0 : Int) < (d.2 : Int) := by omega
            rw [if_neg hp, List.append_nil] at htk
            gi_wp2
            refine ⟨fun _ h => (by cases h), ?_⟩
            gi_wp2
            go_roundw
            case rel => exact ⟨j + 1, by omega, by simp, hB2, by rw [htk]; exact hJ2⟩
            case measure => simp; omega
        · obtain rfl : j = c.length := by omega
          gi_wp2
          go_roundw
          case rel => exact ⟨k + 1, by omega, by simp, hBq, by rw [hallk]; simpa using hJq⟩
          case measure => simp; omega
    · obtain rfl : k = ls.length := by omega
      gi_wp2
      go_end0
      exact ⟨⟨_, rfl⟩, .inl ⟨_, rfl, by simpa using hJk⟩⟩

set_option maxHeartbeats 1000000 in
theorem dots_in (F : Fence) (n : Nat) (h38 : F.fn 44) (hro : F.round = none) (a : Option Addr) (m cap : Nat) (w : World) :
    CallsIn F n Tryz.prog 44 #[.slice a m cap] w fun e w' => e = .returned (.func (.func 56) #[] #[.pointer (some ⟨w.heap.size, 0, none⟩)]) ∧ w' = w.alloc (.cells #[.slice a m cap] 99) := by
  refine callsIn_of_wp Tryz.func44 rfl h38 ?_ hro
  simp only [Tryz.ntmps44, List.size_toArray, List.length_cons, List.length_nil, Nat.reduceAdd, Nat.reduceSub, Array.replicate_succ, Array.replicate_zero, List.push_toArray, List.append_toArray, List.nil_append, List.cons_append]
  gi_wp2
  go_ret
  exact ⟨rfl, rfl⟩
theorem dots_stops (F : Fence) (n : Nat) (h55 : F.fn 56) (hro : F.round = none) (hn : 1 ≤ n) (Bn : Nat) (G : Nat → Prop) (v : Value) (ls : List (List Dt)) (hlen : ls.length < 9223372036854775807) (hlens : ∀ c ∈ ls, c.length < 9223372036854775807) (w : World) (hBn : Bn < w.heap.size) (hG : ∀ k, G k → k < w.heap.size)
    (hc : w.cell? ⟨Bn, 0, none⟩ = some v) (hL : Clks G w v ls) :
    SeqStopsK F n Tryz.prog 56 #[.pointer (some ⟨Bn, 0, none⟩)] (fun x : Dt => #[dotV x]) (Kp G) (fun ys => ys = allD ls) (fun pre => pre <+: allD ls) (allD ls).length w := fun l J Jx W hW hJ _ hY h0 =>
  dots1_in F n h55 hro hn l Bn G v ls hlen hlens J Jx (fun _ => True) (fun _ _ => trivial) W hJ (fun k hk => Nat.lt_of_lt_of_le (hG k hk) hW.size) (fun pre x W _ => hY pre x W) ((hW.cell (p := ⟨Bn, 0, none⟩) hBn).trans hc) (hL.keep (Kp.ofBelow hW hG)) h0
end Go.Proofs.YtmhpfncbbboamaaGreat
