/- Cut (10), Joined (12). -/
import Derived.Test.YtmdoamkockoipaaNtGroup
import Derived.Deep.RegionWith
import Derived.Deep.RegionHeld3
import Derived.Deep.Cut
namespace Go.Proofs.Ytmdoamkockoipaa
open Go.RowKit Go.Maps

theorem cut_nil (a b : Int) (w : World) : Calls Try.prog 10 #[.pointer none, .int .i64 a, .int .i64 b] w fun e w' => e = .returned (.tuple #[]) ∧ w' = w := by
  go_enter Try.func10, Try.ntmps10
  go_wp2
  exact bodyPost_ret (results_none (by kernel_rfl) _ _ _) rfl ⟨rfl, rfl⟩
theorem joined_nil (a b : Int) (w : World) : Calls Try.prog 12 #[.pointer none, .int .i64 a, .int .i64 b] w fun e w' => e = .returned (.bool true) ∧ w' = w := by
  go_enter Try.func12, Try.ntmps12
  go_wp2
  go_ret
  exact ⟨rfl, rfl⟩
theorem mem_keys {c : List (Int × Int)} (hc : ∀ p ∈ c, okP p) {p : Int × Int} (hp : okP p) : keyP p ∈ c.map keyP ↔ p ∈ c := by
  constructor
  · intro h
    obtain ⟨q, hq, e⟩ := List.mem_map.1 h
    rw [← keyP_inj (hc q hq) hp e]; exact hq
  · exact List.mem_map_of_mem
theorem addK_map {c : List (Int × Int)} (hc : ∀ p ∈ c, okP p) {p : Int × Int} (hp : okP p) : addK (keyP p) (c.map keyP) = (if p ∈ c then c else c ++ [p]).map keyP := by
  unfold addK
  by_cases h : p ∈ c
  · rw [if_pos ((mem_keys hc hp).2 h), if_pos h]
  · rw [if_neg (fun q => h ((mem_keys hc hp).1 q)), if_neg h]; simp
theorem eqMap_nil (w : World) : (binOp .eql 44 (.map none) (.map none)).run Try.prog w = .ok (.bool true) w := by kernel_rfl
theorem eqMap_some (b : Nat) (w : World) : (binOp .eql 44 (.map (some b)) (.map none)).run Try.prog w = .ok (.bool false) w := by kernel_rfl
theorem map_ne {k : TypeId} {w : World} {b mb : Nat} {cs : List Value} {t : TypeId} {L : List Lit} (hH : Holds w b cs t) (hT : SetAt k w mb L) : b ≠ mb := fun e => by
  obtain ⟨es, c, hes⟩ := hT.isMap
  unfold Holds at hH
  rw [e, hes] at hH
  cases hH
theorem cuts_ok {c : List (Int × Int)} (hc : ∀ p ∈ c, okP p) (hn : c.Nodup) {p : Int × Int} (hp : okP p) : (∀ q ∈ (if p ∈ c then c else c ++ [p]), okP q) ∧ (if p ∈ c then c else c ++ [p]).Nodup := by
  split
  · exact ⟨hc, hn⟩
  · rename_i h
    refine ⟨fun q hq => ?_, List.nodup_append.2 ⟨hn, by simp, fun a ha b hb => by simp at hb; subst hb; exact fun e => h (e ▸ ha)⟩⟩
    rcases List.mem_append.1 hq with hq | hq
    · exact hc q hq
    · simp at hq; subst hq; exact hp
/-- The store of a cut's pair, whatever was made since. -/
theorem cut_store {G : Nat → Prop} {W : World} {b mb : Nat} {v : Value} {s : Nt} {a c : Int} (hG : ∀ k, G k → k < W.heap.size) (hb : ¬ G b) (hr : s.l.length ≤ 4096) (hH : Holds W b [v, .int .i64 (s.last : Int), .map (some mb)] 46) (hR : W.ownsRow 0 34 4 v s.l.length (mgF s.l)) (hg : ∀ g, v.ownBlock = some g → ¬ G g ∧ g ≠ b)
    (h1 : ∀ p ∈ s.cuts, okP p) (h2 : s.cuts.Nodup) (hm : ¬ G mb) (hT : SetAt 54 W mb (s.cuts.map keyP)) (hl : s.cuts.length < 4611686018427387904) (ha : okI a) (hc : okI c) (hne : a ≠ c) :
    ∃ w1, (Instr.mapUpdate 44 (.map (some mb)) (pairV (pairI a c)) (.agg #[])).run Try.prog W = .ok () w1 ∧ w1.cell? ⟨b, 2, none⟩ = some (.map (some mb)) ∧ Hid (NetAt G w1 b { s with cuts := cutL s.cuts a c } ∧ Keeps G W w1) := by
  have hp := pairI_ok ha hc
  obtain ⟨w1, hput, hS, hU⟩ := hT.store law54 und44 (by rw [List.length_map]; unfold maxLen; omega) (key_pair hp)
  obtain ⟨o1, o2⟩ := cuts_ok h1 h2 hp
  have hne1 := map_ne hH hT
  refine ⟨w1, hput, (hH.upd hU hne1).at 2 _ rfl, ⟨fun k hk => Nat.lt_of_lt_of_le (hG k hk) hU.size, hb, hr, v, .map (some mb), hH.upd hU hne1, ?_, hg, ?_⟩, Keeps.ofUpd hU hm hG⟩
  · refine owns_same hR fun g hg' => hU.block g (owns_lt hR hg') fun e => ?_
    obtain ⟨cur, hcur⟩ := owns_cells hR hg'
    obtain ⟨es, cl, hes⟩ := hT.isMap
    rw [e, hes] at hcur
    cases hcur
  · have e : cutL s.cuts a c = if pairI a c ∈ s.cuts then s.cuts else s.cuts ++ [pairI a c] := if_neg hne
    show CutsAt G w1 _ (cutL s.cuts a c)
    rw [e]
    refine ⟨o1, o2, .inr ⟨mb, rfl, hm, ?_⟩⟩
    rw [addK_map h1 hp] at hS
    exact hS
theorem cut_self {w : World} {b : Nat} (a : Int) : Calls Try.prog 10 #[.pointer (some ⟨b, 0, none⟩), .int .i64 a, .int .i64 a] w fun e w' => e = .returned (.tuple #[]) ∧ w' = w := by
  go_enter Try.func10, Try.ntmps10
  go_wp2
  exact bodyPost_ret (results_none (by kernel_rfl) _ _ _) rfl ⟨rfl, rfl⟩
set_option maxHeartbeats 1600000 in
theorem cut_any {G : Nat → Prop} {w : World} {b : Nat} {s : Nt} (a c : Int) (ha : okI a) (hc : okI c) (hl : s.cuts.length < 4611686018427387904) (h : NetAt G w b s) :
    Calls Try.prog 10 #[.pointer (some ⟨b, 0, none⟩), .int .i64 a, .int .i64 c] w fun e w' => e = .returned (.tuple #[]) ∧ Hid (NetAt G w' b { s with cuts := cutL s.cuts a c } ∧ Keeps G w w') := by
  by_cases hne : a = c
  · subst hne
    refine (cut_self a).mono ?_
    rintro e w' ⟨rfl, rfl⟩
    have e : cutL s.cuts a a = s.cuts := if_pos rfl
    rw [e]
    exact ⟨rfl, h, Keeps.refl _ _⟩
  have hblt := h.lt
  obtain ⟨hG, hb, hr, v, mv, hH, hR, hg, h1, h2, hm⟩ := h
  have c2 := hH.at 2 _ rfl
  have f2 := hH.frozen 2
  obtain ⟨x, y, hxy⟩ : ∃ x y, pairI a c = (x, y) := ⟨_, _, rfl⟩
  have hPO : ∀ W, Calls Try.prog 20 #[.int .i64 a, .int .i64 c] W fun e w' => e = .returned (.agg #[.int .i64 x, .int .i64 y]) ∧ w' = W.alloc (.cells #[.int .i64 x, .int .i64 y] 54) := fun W => by
    have := pairOf_any a c W
    rw [hxy] at this
    exact this
  rcases hm with ⟨rfl, h0⟩ | ⟨mb, rfl, hmG, hT⟩
  · have hz0 : (w.setCell ⟨b, 2, none⟩ (.map (some w.heap.size))).heap.size = w.heap.size := World.size_setCell ..
    have hu1 : Upd b w ((w.setCell ⟨b, 2, none⟩ (.map (some w.heap.size))).alloc (.map #[] 0)) := ((Upd.refl b w).setCell 2 _).alloc _
    have hH1 : Holds ((w.setCell ⟨b, 2, none⟩ (.map (some w.heap.size))).alloc (.map #[] 0)) b [v, .int .i64 (s.last : Int), .map (some w.heap.size)] 46 := (hH.set 2 (.map (some w.heap.size))).alloc _
    have hT1 : SetAt 54 ((w.setCell ⟨b, 2, none⟩ (.map (some w.heap.size))).alloc (.map #[] 0)) w.heap.size (s.cuts.map keyP) := by
      have := set_made 54 (w.setCell ⟨b, 2, none⟩ (.map (some w.heap.size)))
      rw [hz0] at this
      rw [h0]
      exact this
    have hR1 : World.ownsRow ((w.setCell ⟨b, 2, none⟩ (.map (some w.heap.size))).alloc (.map #[] 0)) 0 34 4 v s.l.length (mgF s.l) := owns_same hR fun g hg' => hu1.block g (owns_lt hR hg') (hg g hg').2
    have hK1 : Hid (Keeps G w ((w.setCell ⟨b, 2, none⟩ (.map (some w.heap.size))).alloc (.map #[] 0))) := Keeps.ofUpd hu1 hb hG
    have hG1 : ∀ k, G k → k < ((w.setCell ⟨b, 2, none⟩ (.map (some w.heap.size))).alloc (.map #[] 0)).heap.size := fun k hk => Nat.lt_of_lt_of_le (hG k hk) hu1.size
    have hmG : ¬ G w.heap.size := fun q => Nat.lt_irrefl _ (hG _ q)
    have heq := eqMap_nil w
    have hmm := @run_makeMap Try.prog
    go_enter Try.func10, Try.ntmps10
    go_upto_region 3 with fail
    generalize (w.setCell ⟨b, 2, none⟩ (.map (some w.heap.size))).alloc (.map #[] 0) = w1 at *
    generalize w.heap.size = mb at *
    clear hmm heq c2 f2 hH hR hu1
    obtain ⟨w2, hput, e2, hE⟩ := cut_store (W := (w1.alloc (.cells #[.int .i64 x, .int .i64 y] 54)).drew) (a := a) (c := c) (fun k hk => Nat.lt_of_lt_of_le (hG1 k hk) (by simp)) hb hr (hH1.alloc _) (owns_same hR1 fun g hg' => ((Below.refl _ _).alloc (Nat.le_refl _) _).block g (owns_lt hR1 hg')) hg h1 h2 hmG (hT1.same (((Below.refl _ _).alloc (Nat.le_refl _) _).block mb hT1.lt)) hl ha hc hne
    rw [hxy] at hput
    have hput2 : (Instr.mapUpdate 44 (.map (some mb)) (.agg #[.int .i64 x, .int .i64 y]) (.agg #[])).run Try.prog (w1.alloc (.cells #[.int .i64 x, .int .i64 y] 54)).drew = .ok () w2 := hput
    have hF : Hid (NetAt G w2 b { s with cuts := cutL s.cuts a c } ∧ Keeps G w w2) := ⟨hE.out.1, (hK1.out.trans (Keeps.ofBelow ((Below.refl _ _).alloc (Nat.le_refl _) _) hG1).drew).trans hE.out.2⟩
    have c2 := hH1.at 2 _ rfl
    have d2 := (hH1.alloc (.cells #[.int .i64 x, .int .i64 y] 54)).at 2 _ rfl
    clear hput hE hH1 hT1 hR1 hG1 hG h1 h2 hg hK1
    go_region_held3 (fun W => W.cell? ⟨b, 2, none⟩ = some (.map (some mb))) (go_keep) (first | (go_at_call 20; refine (hPO _).mono ?_; rintro e w' ⟨rfl, rfl⟩))
    exact bodyPost_end (results_none (by kernel_rfl) _ _ _) rfl ⟨rfl, hF⟩
  · have heq := eqMap_some mb w
    go_enter Try.func10, Try.ntmps10
    go_upto_region 3 with fail
    obtain ⟨w1, hw1⟩ : ∃ w1, w = w1 := ⟨_, rfl⟩
    have hK1 : Hid (Keeps G w w1) := hw1 ▸ Keeps.refl _ _
    have hG1 : ∀ k, G k → k < w1.heap.size := hw1 ▸ hG
    have hH1 : Holds w1 b [v, .int .i64 (s.last : Int), .map (some mb)] 46 := hw1 ▸ hH
    have hT1 : SetAt 54 w1 mb (s.cuts.map keyP) := hw1 ▸ hT
    have hR1 : w1.ownsRow 0 34 4 v s.l.length (mgF s.l) := hw1 ▸ hR
    rw [hw1] at c2 f2 ⊢
    clear heq c2 f2 hH hR hT hw1
    obtain ⟨w2, hput, e2, hE⟩ := cut_store (W := (w1.alloc (.cells #[.int .i64 x, .int .i64 y] 54)).drew) (a := a) (c := c) (fun k hk => Nat.lt_of_lt_of_le (hG1 k hk) (by simp)) hb hr (hH1.alloc _) (owns_same hR1 fun g hg' => ((Below.refl _ _).alloc (Nat.le_refl _) _).block g (owns_lt hR1 hg')) hg h1 h2 hmG (hT1.same (((Below.refl _ _).alloc (Nat.le_refl _) _).block mb hT1.lt)) hl ha hc hne
    rw [hxy] at hput
    have hput2 : (Instr.mapUpdate 44 (.map (some mb)) (.agg #[.int .i64 x, .int .i64 y]) (.agg #[])).run Try.prog (w1.alloc (.cells #[.int .i64 x, .int .i64 y] 54)).drew = .ok () w2 := hput
    have hF : Hid (NetAt G w2 b { s with cuts := cutL s.cuts a c } ∧ Keeps G w w2) := ⟨hE.out.1, (hK1.out.trans (Keeps.ofBelow ((Below.refl _ _).alloc (Nat.le_refl _) _) hG1).drew).trans hE.out.2⟩
    have c2 := hH1.at 2 _ rfl
    have d2 := (hH1.alloc (.cells #[.int .i64 x, .int .i64 y] 54)).at 2 _ rfl
    clear hput hE hH1 hT1 hR1 hG1 hG h1 h2 hg hK1
    go_region_held3 (fun W => W.cell? ⟨b, 2, none⟩ = some (.map (some mb))) (go_keep) (first | (go_at_call 20; refine (hPO _).mono ?_; rintro e w' ⟨rfl, rfl⟩))
    exact bodyPost_end (results_none (by kernel_rfl) _ _ _) rfl ⟨rfl, hF⟩
set_option maxHeartbeats 1600000 in
theorem joined_any {G : Nat → Prop} {w : World} {b : Nat} {s : Nt} (a c : Int) (ha : okI a) (hc : okI c) (h : NetAt G w b s) :
    Calls Try.prog 12 #[.pointer (some ⟨b, 0, none⟩), .int .i64 a, .int .i64 c] w fun e w' => e = .returned (.bool (joinedB s.cuts a c)) ∧ Below w.heap.size w w' := by
  obtain ⟨hG, hb, hr, v, mv, hH, hR, hg, h1, h2, hm⟩ := h
  have c2 := hH.at 2 _ rfl
  obtain ⟨x, y, hxy⟩ : ∃ x y, pairI a c = (x, y) := ⟨_, _, rfl⟩
  have hPO : ∀ W, Calls Try.prog 20 #[.int .i64 a, .int .i64 c] W fun e w' => e = .returned (.agg #[.int .i64 x, .int .i64 y]) ∧ w' = W.alloc (.cells #[.int .i64 x, .int .i64 y] 54) := fun W => by
    have := pairOf_any a c W
    rw [hxy] at this
    exact this
  have d2 := (hH.alloc (.cells #[.int .i64 x, .int .i64 y] 54)).at 2 _ rfl
  have hp := pairI_ok ha hc
  have hlo : ∃ d, d = decide (pairI a c ∈ s.cuts) ∧ ∀ W, Below w.heap.size w W → (Instr.lookup 44 mv (.agg #[.int .i64 x, .int .i64 y]) true).run Try.prog W = .ok (.tuple #[.agg #[], .bool d]) W := by
    have hk := key_pair hp
    rw [hxy] at hk
    rcases hm with ⟨rfl, h0⟩ | ⟨mb, rfl, hmG, hT⟩
    · refine ⟨_, rfl, fun W _ => ?_⟩
      rw [h0]
      exact look_none law54 und44 hk
    · refine ⟨_, rfl, fun W hW => ?_⟩
      have := (hT.same (hW.block mb hT.lt)).look law54 und44 hk
      have e : decide (keyP (pairI a c) ∈ s.cuts.map keyP) = decide (pairI a c ∈ s.cuts) := decide_eq_decide.2 (mem_keys h1 hp)
      rw [hxy] at e ⊢
      rw [e] at this
      exact this
  obtain ⟨d, hd, hlo⟩ := hlo
  have ej : joinedB s.cuts a c = !d := by rw [hd]; rfl
  rw [ej]
  have b1 : Below w.heap.size w (w.alloc (.cells #[.int .i64 x, .int .i64 y] 54)).drew := ((Below.refl _ _).alloc (Nat.le_refl _) _).drew
  have b2 : Below w.heap.size w ((w.alloc (.cells #[.int .i64 x, .int .i64 y] 54)).alloc (.cells #[] 53)).drew := (((Below.refl _ _).alloc (Nat.le_refl _) _).alloc (by simp) _).drew
  have b3 : Below w.heap.size w ((w.alloc (.cells #[] 53)).alloc (.cells #[.int .i64 x, .int .i64 y] 54)).drew := (((Below.refl _ _).alloc (Nat.le_refl _) _).alloc (by simp) _).drew
  have l1 := hlo _ b1
  have l2 := hlo _ b2
  have l3 := hlo _ b3
  have d3 := (hH.alloc (.cells #[] 53)).at 2 _ rfl
  have d4 := ((hH.alloc (.cells #[.int .i64 x, .int .i64 y] 54)).alloc (.cells #[] 53)).at 2 _ rfl
  have d5 := ((hH.alloc (.cells #[] 53)).alloc (.cells #[.int .i64 x, .int .i64 y] 54)).at 2 _ rfl
  have B1 : Hid (Below w.heap.size w (w.alloc (.cells #[.int .i64 x, .int .i64 y] 54)).drew) := b1
  have B2 : Hid (Below w.heap.size w ((w.alloc (.cells #[.int .i64 x, .int .i64 y] 54)).alloc (.cells #[] 53)).drew) := b2
  have B3 : Hid (Below w.heap.size w ((w.alloc (.cells #[] 53)).alloc (.cells #[.int .i64 x, .int .i64 y] 54)).drew) := b3
  clear hd ej hR hH h1 h2 hm hg hG hr hp ha hc hxy hlo b1 b2 b3
  go_enter Try.func12, Try.ntmps12
  go_upto_region 3 with fail
  go_region_held3 (fun W => W.cell? ⟨b, 2, none⟩ = some mv) (go_keep) (first | (go_at_call 20; refine (hPO _).mono ?_; rintro e w' ⟨rfl, rfl⟩))
  all_goals (go_wp2; go_ret; first | exact ⟨rfl, B2.out⟩ | exact ⟨rfl, B3.out⟩)
end Go.Proofs.Ytmdoamkockoipaa
