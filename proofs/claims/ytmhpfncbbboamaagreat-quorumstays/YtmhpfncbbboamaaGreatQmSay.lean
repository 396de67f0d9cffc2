/- say (24) of one node; Yes (10), No (11). -/
import Derived.Test.YtmhpfncbbboamaaGreatQmSet
import Derived.Test.YtmhpfncbbboamaaGreatQmMem
namespace Go.Proofs.YtmhpfncbbboamaaGreat
open Go.RowKit Go.Maps

theorem seat_at {w : World} {v : Value} {l : Ses} {i : Nat} {x f : Int} {k : Nat} (hR : w.ownsRow 0 77 3 v l.length (sesF l)) (hi : l[i]? = some (x, f, k)) :
    ∃ g cap gs, v = .slice (some ⟨g, 0, none⟩) l.length cap ∧ Holds w g gs 77 ∧ gs[i * 3]? = some (.int .i64 x) ∧ gs[i * 3 + 1]? = some (.int .i64 f) ∧ gs[i * 3 + 2]? = some (.int .i64 (k : Int)) ∧ gs.take (l.length * 3) = sesF l ∧ l.length ≤ cap ∧ cap ≤ maxLen ∧ gs.length = cap * 3 := by
  have hil := (List.getElem?_eq_some_iff.1 hi).1
  obtain ⟨h1, ⟨rfl, h0⟩ | ⟨g, cap, cur, rfl, hb, hg, hc, hc2, hz, ht⟩⟩ := hR
  · omega
  · refine ⟨g, cap, cur.toList, rfl, by unfold Holds; simpa using hg, ?_, ?_, ?_, ht, hc, hc2, by simpa using hz⟩
    all_goals
      have key : ∀ j u, (seV (x, f, k))[j]? = some u → cur.toList[i * 3 + j]? = some u := fun j u hu => by
        have hj : j < 3 := (List.getElem?_eq_some_iff.1 hu).1
        have := sesF_at hi j u hu
        rw [← ht, List.getElem?_take_of_lt (by omega)] at this
        exact this
    · exact key 0 _ rfl
    · exact key 1 _ rfl
    · exact key 2 _ rfl
theorem at_node {l : Ses} {x : Int} (h : x ∈ l.map (·.1)) : ∃ f k, l[(l.map (·.1)).idxOf x]? = some (x, f, k) := by
  have h1 : (l.map (·.1)).idxOf x < (l.map (·.1)).length := List.idxOf_lt_length_iff.2 h
  have h2 : (l.map (·.1))[(l.map (·.1)).idxOf x]? = some x := by
    rw [List.getElem?_eq_getElem h1]
    exact congrArg some (List.getElem_idxOf h1)
  rw [List.getElem?_map] at h2
  cases hs : l[(l.map (·.1)).idxOf x]? with
  | none => rw [hs] at h2; cases h2
  | some s =>
    rw [hs] at h2
    obtain ⟨s1, s2, s3⟩ := s
    simp at h2
    exact ⟨s2, s3, by rw [h2]⟩
theorem wrap_sub {n d : Nat} (h : d ≤ n) (hn : n < 4611686018427387904) : wrap64 ((n : Int) - (d : Int)) = ((n - d : Nat) : Int) := by
  unfold wrap64; omega
theorem wrap_add {n d : Nat} (h : n + d < 4611686018427387904) : wrap64 ((n : Int) + (d : Int)) = ((n + d : Nat) : Int) := by
  unfold wrap64; omega
theorem addK11 (n d : Int) : addK 1 1 n d = wrap64 (n + d) := rfl
theorem addK12 (n d : Int) : addK 1 2 n d = n := rfl
theorem addK21 (n d : Int) : addK 2 1 n d = n := rfl
theorem addK22 (n d : Int) : addK 2 2 n d = wrap64 (n + d) := rfl
/-- What the counts come to where a seat has said. -/
theorem counts_set {l : Ses} {i : Nat} {x f : Int} {k : Nat} (hk : k = 1 ∨ k = 2) (hi : l[i]? = some (x, f, 0)) (hl : l.length ≤ 1000) (v mv : Value) (rest : List Value) :
    cnC v mv (wrap64 ((cntA l 0 : Int) - 1)) (wrap64 ((cntP l 0 : Int) - prI x f)) (addK k 1 (cntA l 1) 1) (addK k 1 (cntP l 1) (prI x f)) (addK k 2 (cntA l 2) 1) (addK k 2 (cntP l 2) (prI x f)) rest
      = cnC v mv (cntA (l.set i (x, f, k)) 0) (cntP (l.set i (x, f, k)) 0) (cntA (l.set i (x, f, k)) 1) (cntP (l.set i (x, f, k)) 1) (cntA (l.set i (x, f, k)) 2) (cntP (l.set i (x, f, k)) 2) rest := by
  have hk0 : k ≠ 0 := by omega
  have a0 := cntA_set hi hk0 0
  have a1 := cntA_set hi hk0 1
  have a2 := cntA_set hi hk0 2
  have p0 := cntP_set hi hk0 0
  have p1 := cntP_set hi hk0 1
  have p2 := cntP_set hi hk0 2
  have b0 := cntA_le l 0
  have b1 := cntA_le l 1
  have b2 := cntA_le l 2
  have c0 := cntP_le l 0
  have c1 := cntP_le l 1
  have c2 := cntP_le l 2
  have hk0' : ¬ 0 = k := by omega
  obtain ⟨d, hd, hd1⟩ : ∃ d : Nat, prI x f = (d : Int) ∧ d = if x = f then 1 else 0 := by
    unfold prI
    by_cases e : x = f
    · exact ⟨1, by simp [e], by simp [e]⟩
    · exact ⟨0, by simp [e], by simp [e]⟩
  have hd2 : d ≤ 1 := by split at hd1 <;> omega
  rw [hd]
  have q0 : cntP (l.set i (x, f, k)) 0 + d = cntP l 0 := by
    simp [hk0'] at p0
    rw [hd1]; exact p0
  have e1 : wrap64 ((cntA l 0 : Int) - 1) = (cntA (l.set i (x, f, k)) 0 : Int) := by
    have := wrap_sub (n := cntA l 0) (d := 1) (by simp [hk0'] at a0; omega) (by omega)
    simp [hk0'] at a0
    rw [show (1 : Int) = ((1 : Nat) : Int) from rfl, this]; congr 1; omega
  have e2 : wrap64 ((cntP l 0 : Int) - (d : Int)) = (cntP (l.set i (x, f, k)) 0 : Int) := by
    rw [wrap_sub (by omega) (by omega)]; congr 1; omega
  have one : ∀ n : Nat, n ≤ 1000 → wrap64 ((n : Int) + 1) = ((n + 1 : Nat) : Int) := fun n hn => wrap_add (n := n) (d := 1) (by omega)
  rw [e1, e2]
  rcases hk with h | h
  · subst h
    simp at a1 a2
    have r1 : cntP (l.set i (x, f, 1)) 1 = cntP l 1 + d := by simp at p1; rw [hd1]; exact p1
    have r2 : cntP (l.set i (x, f, 1)) 2 = cntP l 2 := by simpa using p2
    rw [addK11, addK11, addK12, addK12, one _ (by omega), wrap_add (by omega), a1, a2, r1, r2]
  · subst h
    simp at a1 a2
    have r1 : cntP (l.set i (x, f, 2)) 1 = cntP l 1 := by simpa using p1
    have r2 : cntP (l.set i (x, f, 2)) 2 = cntP l 2 + d := by simp at p2; rw [hd1]; exact p2
    rw [addK21, addK21, addK22, addK22, one _ (by omega), wrap_add (by omega), a1, a2, r1, r2]
theorem say_nil (k : Int) (v : Value) (w : World) : Calls Tryz.prog 24 #[.pointer none, .int .i64 k, v] w fun e w' => e = .returned (.bool false) ∧ w' = w := by
  go_enter Tryz.func24, Tryz.ntmps24
  go_wp2
  go_ret
  exact ⟨rfl, rfl⟩
set_option maxRecDepth 100000 in
/-- A node that isn't there, or in no map. -/
theorem say_out (b k q qo cq : Nat) (mv : Value) (x : Int) (w : World) (c1 : w.cell? ⟨b, 1, none⟩ = some mv) (hlk : (Instr.lookup 25 mv (.int .i64 x) true).run Tryz.prog w = .ok (.tuple #[.int .i64 0, .bool false]) w) (cx : w.cell? ⟨q, qo, none⟩ = some (.int .i64 x)) :
    Calls Tryz.prog 24 #[.pointer (some ⟨b, 0, none⟩), .int .i64 (k : Int), .slice (some ⟨q, qo, none⟩) 1 cq] w fun e w' => e = .returned (.bool false) ∧ w' = w := by
  go_enter Tryz.func24, Tryz.ntmps24
  go_wp2
  go_loopw [7, 16] (fun h c wr => ∃ i : Nat, c = .int .i64 (i : Int) ∧ i ≤ 1 ∧ h = .bool false ∧ wr = w) (fun _ c _ => 1 - (intOf c).toNat)
  case atStart => exact ⟨0, rfl, by omega, by trivial, by trivial⟩
  case round =>
    obtain ⟨i, rfl, hi, rfl, rfl⟩ := hrel
    rcases (show i = 0 ∨ i = 1 by omega) with rfl | rfl
    · go_wp2
      exact ⟨⟨1, rfl, by omega, by trivial, by trivial⟩, by simp [intOf]⟩
    · go_wp2
      go_ret
      exact ⟨rfl, rfl⟩
set_option maxRecDepth 100000 in
/-- A node that has said already. -/
theorem say_said (b k q qo cq g n cap i s mb : Nat) (hi : i < n) (hs : s ≠ 0) (x : Int) (w : World) (c0 : w.cell? ⟨b, 0, none⟩ = some (.slice (some ⟨g, 0, none⟩) n cap)) (c1 : w.cell? ⟨b, 1, none⟩ = some (.map (some mb))) (hlk : (Instr.lookup 25 (.map (some mb)) (.int .i64 x) true).run Tryz.prog w = .ok (.tuple #[.int .i64 (i : Int), .bool true]) w) (cs : w.cell? ⟨g, i * 3 + 2, none⟩ = some (.int .i64 (s : Int))) (cx : w.cell? ⟨q, qo, none⟩ = some (.int .i64 x)) :
    Calls Tryz.prog 24 #[.pointer (some ⟨b, 0, none⟩), .int .i64 (k : Int), .slice (some ⟨q, qo, none⟩) 1 cq] w fun e w' => e = .returned (.bool false) ∧ w' = w := by
  have hs' : ((s : Int) == 0) = false := by simpa using hs
  go_enter Tryz.func24, Tryz.ntmps24
  go_wp2
  go_loopw [7, 16] (fun h c wr => ∃ i : Nat, c = .int .i64 (i : Int) ∧ i ≤ 1 ∧ h = .bool false ∧ wr = w) (fun _ c _ => 1 - (intOf c).toNat)
  case atStart => exact ⟨0, rfl, by omega, by trivial, by trivial⟩
  case round =>
    obtain ⟨i, rfl, hi, rfl, rfl⟩ := hrel
    rcases (show i = 0 ∨ i = 1 by omega) with rfl | rfl
    · go_wp2
      exact ⟨⟨1, rfl, by omega, by trivial, by trivial⟩, by simp [intOf]⟩
    · go_wp2
      go_ret
      exact ⟨rfl, rfl⟩
set_option maxRecDepth 100000 in
/-- A node that is open. -/
theorem say_open (R : World → Prop) (b k q qo cq g n cap i mb : Nat) (hi : i < n) (x : Int) (w : World) (c0 : w.cell? ⟨b, 0, none⟩ = some (.slice (some ⟨g, 0, none⟩) n cap)) (c1 : w.cell? ⟨b, 1, none⟩ = some (.map (some mb))) (hlk : (Instr.lookup 25 (.map (some mb)) (.int .i64 x) true).run Tryz.prog w = .ok (.tuple #[.int .i64 (i : Int), .bool true]) w) (cs : w.cell? ⟨g, i * 3 + 2, none⟩ = some (.int .i64 0)) (cx : w.cell? ⟨q, qo, none⟩ = some (.int .i64 x))
    (hset : Hid (Calls Tryz.prog 32 #[.pointer (some ⟨b, 0, none⟩), .pointer (some ⟨g, i * 3, none⟩), .int .i64 (k : Int)] w fun e w' => e = .returned (.tuple #[]) ∧ Hid (R w'))) :
    Calls Tryz.prog 24 #[.pointer (some ⟨b, 0, none⟩), .int .i64 (k : Int), .slice (some ⟨q, qo, none⟩) 1 cq] w fun e w' => e = .returned (.bool true) ∧ R w' := by
  go_enter Tryz.func24, Tryz.ntmps24
  go_wp2
  go_loopw [7, 16] (fun h c wr => (c = .int .i64 0 ∧ h = .bool false ∧ wr = w) ∨ (c = .int .i64 1 ∧ h = .bool true ∧ Hid (R wr))) (fun _ c _ => 1 - (intOf c).toNat)
  case atStart => exact .inl (by trivial)
  case round =>
    rcases hrel with ⟨rfl, rfl, rfl⟩ | ⟨rfl, rfl, hR⟩
    · go_wp2_with (go_at_call 32; refine hset.out.mono ?_; rintro e w2 ⟨rfl, h2⟩)
      exact ⟨.inr ⟨rfl, rfl, h2⟩, by simp [intOf]⟩
    · go_wp2
      go_ret
      exact ⟨rfl, hR.out⟩
theorem idx_of {l : Ses} {x : Int} (h : x ∈ l.map (·.1)) : plI (l.map (·.1)) x = (((l.map (·.1)).idxOf x : Nat) : Int) := if_pos h
/-- One node says so. -/
theorem say_any {lo hi : Nat} {rest : List Value} {ty : TypeId} {need prime : Int} {w : World} {b : Nat} {l : Ses} (k : Nat) (hk : k = 1 ∨ k = 2) (h : TyAt lo hi rest ty need prime w b l) (q qo cq : Nat) (x : Int) (hx : I64 x) (cx : w.cell? ⟨q, qo, none⟩ = some (.int .i64 x)) :
    Calls Tryz.prog 24 #[.pointer (some ⟨b, 0, none⟩), .int .i64 (k : Int), .slice (some ⟨q, qo, none⟩) 1 cq] w fun e w' => e = .returned (.bool (heardB l x)) ∧ TyAt lo hi rest ty need prime w' b (sayS k l x) ∧ Mid lo hi w w' := by
  have h0 := h
  obtain ⟨h1, h2, h3, h4, v, mb, hH, hm, hP, hR, hv⟩ := h
  have c1 := hH.at 1 _ rfl
  have c0 := hH.at 0 _ rfl
  have hlk := hP.look x hx
  by_cases hin : x ∈ l.map (·.1)
  · rw [idx_of hin, decide_eq_true hin] at hlk
    obtain ⟨f, s, hs⟩ := at_node hin
    obtain ⟨g, cap, gs, rfl, hG, g0, g1, g2, gt, gc, gm, gl⟩ := seat_at hR hs
    generalize (l.map (·.1)).idxOf x = i at *
    have hil := (List.getElem?_eq_some_iff.1 hs).1
    by_cases hz : s = 0
    · subst hz
      rw [heard_at hs, say_at h3 hs]
      have hgb : lo ≤ g ∧ g < hi ∧ g ≠ b := hv g rfl
      refine say_open (fun w' => TyAt lo hi rest ty need prime w' b (l.set i (x, f, k)) ∧ Mid lo hi w w') b k q qo cq g l.length cap i mb hil x w c0 c1 hlk (hG.at (i * 3 + 2) _ g2) cx ?_
      refine (settle_any b g (i * 3) k hk hgb.2.2 _ _ _ _ _ _ _ _ _ ty gs 77 x f 0 w hH hG g0 g1 g2).mono fun e w' ⟨e1, e2, e3, e4⟩ => ⟨e1, ?_⟩
      rw [counts_set hk hs h4] at e2
      have hmg : mb ≠ g := fun e => by
        obtain ⟨es, c, hh⟩ := hP.isMap
        unfold Holds at hG
        rw [← e, hh] at hG; cases hG
      have hmb : mb ≠ b := fun e => by
        obtain ⟨es, c, hh⟩ := hP.isMap
        unfold Holds at hH
        rw [← e, hh] at hH; cases hH
      refine ⟨⟨h1, Nat.le_trans h2 e4.size, ?_, by simpa using h4, _, mb, e2, hm, ?_, ?_, hv⟩, e4.os, e4.tape, e4.output, e4.size, fun j hj hn => e4.block j hj (by omega) (by omega)⟩
      · have := h3.say k x
        rwa [say_at h3 hs] at this
      · have : (l.set i (x, f, k)).map (·.1) = l.map (·.1) := by
          rw [← say_at h3 hs, nodes_say]
        rw [this]
        exact hP.same (e4.block mb hP.lt hmb hmg)
      · refine ⟨by rw [sesF_len, List.length_set], .inr ⟨g, cap, (gs.set (i * 3 + 2) (.int .i64 (k : Int))).toArray, by rw [List.length_set], Nat.zero_le _, e3, by rw [List.length_set]; exact gc, gm, by simpa using gl, ?_⟩⟩
        rw [List.length_set, sesF_set l i x f 0 k hs, ← gt]
        show (gs.set (i * 3 + 2) _).take (l.length * 3) = _
        rw [List.take_set]
    · rw [heard_not h3 hs hz, say_none (heard_not h3 hs hz)]
      exact (say_said b k q qo cq g l.length cap i s mb hil hz x w c0 c1 hlk (hG.at (i * 3 + 2) _ g2) cx).mono fun e w' ⟨e1, e2⟩ => ⟨e1, e2 ▸ h0, e2 ▸ Mid.refl _ _ _⟩
  · rw [plI, if_neg hin, decide_eq_false hin] at hlk
    have hh : heardB l x = false := heard_out (by
      cases q : hasN l x with
      | false => rfl
      | true => exact absurd (hasN_iff.1 q) hin)
    rw [hh, say_none hh]
    exact (say_out b k q qo cq _ x w c1 hlk cx).mono fun e w' ⟨e1, e2⟩ => ⟨e1, e2 ▸ h0, e2 ▸ Mid.refl _ _ _⟩
theorem yes_nil (v : Value) (w : World) : Calls Tryz.prog 10 #[.pointer none, v] w fun e w' => e = .returned (.bool false) ∧ w' = w := by
  have h0 : Hid (∀ v W, Calls Tryz.prog 24 #[.pointer none, .int .i64 1, v] W fun e w' => e = .returned (.bool false) ∧ w' = W) := fun v W => say_nil 1 v W
  go_enter Tryz.func10, Tryz.ntmps10
  go_wp2_with (go_at_call 24; refine (h0.out _ _).mono ?_; rintro e w2 ⟨rfl, rfl⟩)
  go_ret
  exact ⟨rfl, rfl⟩
theorem no_nil (v : Value) (w : World) : Calls Tryz.prog 11 #[.pointer none, v] w fun e w' => e = .returned (.bool false) ∧ w' = w := by
  have h0 : Hid (∀ v W, Calls Tryz.prog 24 #[.pointer none, .int .i64 2, v] W fun e w' => e = .returned (.bool false) ∧ w' = W) := fun v W => say_nil 2 v W
  go_enter Tryz.func11, Tryz.ntmps11
  go_wp2_with (go_at_call 24; refine (h0.out _ _).mono ?_; rintro e w2 ⟨rfl, rfl⟩)
  go_ret
  exact ⟨rfl, rfl⟩
/-- Yes and No, whatever say does. -/
theorem yes_of (b : Nat) (v : Value) (w : World) (S : Bool → World → Prop) (h : Calls Tryz.prog 24 #[.pointer (some ⟨b, 0, none⟩), .int .i64 1, v] w fun e w' => ∃ t, e = .returned (.bool t) ∧ S t w') : Calls Tryz.prog 10 #[.pointer (some ⟨b, 0, none⟩), v] w fun e w' => ∃ t, e = .returned (.bool t) ∧ S t w' := by
  have h0 : Hid (Calls Tryz.prog 24 #[.pointer (some ⟨b, 0, none⟩), .int .i64 1, v] w fun e w' => ∃ t, e = .returned (.bool t) ∧ Hid (S t w')) := h
  go_enter Tryz.func10, Tryz.ntmps10
  go_wp2_with (go_at_call 24; refine h0.out.mono ?_; rintro e w2 ⟨t, rfl, h2⟩)
  go_ret
  exact ⟨t, rfl, h2.out⟩
theorem no_of (b : Nat) (v : Value) (w : World) (S : Bool → World → Prop) (h : Calls Tryz.prog 24 #[.pointer (some ⟨b, 0, none⟩), .int .i64 2, v] w fun e w' => ∃ t, e = .returned (.bool t) ∧ S t w') : Calls Tryz.prog 11 #[.pointer (some ⟨b, 0, none⟩), v] w fun e w' => ∃ t, e = .returned (.bool t) ∧ S t w' := by
  have h0 : Hid (Calls Tryz.prog 24 #[.pointer (some ⟨b, 0, none⟩), .int .i64 2, v] w fun e w' => ∃ t, e = .returned (.bool t) ∧ Hid (S t w')) := h
  go_enter Tryz.func11, Tryz.ntmps11
  go_wp2_with (go_at_call 24; refine h0.out.mono ?_; rintro e w2 ⟨t, rfl, h2⟩)
  go_ret
  exact ⟨t, rfl, h2.out⟩
theorem yes_any {lo hi : Nat} {rest : List Value} {ty : TypeId} {need prime : Int} {w : World} {b : Nat} {l : Ses} (h : TyAt lo hi rest ty need prime w b l) (q qo cq : Nat) (x : Int) (hx : I64 x) (cx : w.cell? ⟨q, qo, none⟩ = some (.int .i64 x)) :
    Calls Tryz.prog 10 #[.pointer (some ⟨b, 0, none⟩), .slice (some ⟨q, qo, none⟩) 1 cq] w fun e w' => e = .returned (.bool (heardB l x)) ∧ TyAt lo hi rest ty need prime w' b (sayS 1 l x) ∧ Mid lo hi w w' :=
  (yes_of b _ w (fun t w' => t = heardB l x ∧ TyAt lo hi rest ty need prime w' b (sayS 1 l x) ∧ Mid lo hi w w') ((say_any 1 (.inl rfl) h q qo cq x hx cx).mono fun _ _ ⟨e1, e2⟩ => ⟨_, e1, rfl, e2⟩)).mono fun _ _ ⟨_, e1, e2, e3⟩ => ⟨e2 ▸ e1, e3⟩
theorem no_any {lo hi : Nat} {rest : List Value} {ty : TypeId} {need prime : Int} {w : World} {b : Nat} {l : Ses} (h : TyAt lo hi rest ty need prime w b l) (q qo cq : Nat) (x : Int) (hx : I64 x) (cx : w.cell? ⟨q, qo, none⟩ = some (.int .i64 x)) :
    Calls Tryz.prog 11 #[.pointer (some ⟨b, 0, none⟩), .slice (some ⟨q, qo, none⟩) 1 cq] w fun e w' => e = .returned (.bool (heardB l x)) ∧ TyAt lo hi rest ty need prime w' b (sayS 2 l x) ∧ Mid lo hi w w' :=
  (no_of b _ w (fun t w' => t = heardB l x ∧ TyAt lo hi rest ty need prime w' b (sayS 2 l x) ∧ Mid lo hi w w') ((say_any 2 (.inr rfl) h q qo cq x hx cx).mono fun _ _ ⟨e1, e2⟩ => ⟨_, e1, rfl, e2⟩)).mono fun _ _ ⟨_, e1, e2, e3⟩ => ⟨e2 ▸ e1, e3⟩
end Go.Proofs.YtmhpfncbbboamaaGreat
