/- Same (16) of rings that have one Norm. -/
import Derived.Test.YthmnjebmnocoiaaGreatYA8
import Derived.Test.YthmnjebmnocoiaaGreatYGsEqo
namespace Go.Proofs.YthmnjebmnocoiaaGreat
open Go.RowKit
section
variable {ops : Array Oper} {D : List Nat} {T : Nat → Fk} {a0 : Act} {w : World} {Q : Exit → Act → World → Prop} {o : Oper}
theorem sa_call1g (n : Nat) (x : Operand) (tys : Array TypeId) (d : Nat) (k : Fk) (ho : o.op = .call { callee := .value (.func n), args := #[x], argTypes := tys }) (hd : o.dst = some d) (hg : o.guard = none) (h : Has ops D T a0 o x k)
    (he : ∀ args w, (callFunc n args).run Tryz.prog w = .ok (.enter n args) w) (hc : ∀ v y, Gr w y → k.holds v y → Calls Tryz.prog n #[v] y fun e z => ∃ u, e = .returned u ∧ Gr y z ∧ (T d).holds u z) : StepAt ops D T a0 w Q o := fun f a y c => by
  refine ⟨wanted_none hg _, op_call n _ tys ho #[a.eval x] (by simp) he ((hc _ y c.grown (h.get c)).mono fun e z ⟨u, e1, e2, e3⟩ => ⟨u, e1, u, rfl, e2, fun d' hd' => ?_⟩)⟩
  rw [hd] at hd'
  cases hd'
  exact e3
theorem c_normF (H : Nat) (r : Rg) (v : Value) (y : World) (hy : H ≤ y.heap.size) (h : (Fk.ring r).holds v y) : Calls Tryz.prog 8 #[v] y fun e z => ∃ u, e = .returned u ∧ Gr y z ∧ (Fk.fresh H (normL r)).holds u z := by
  obtain ⟨u, rfl, R1⟩ := h
  exact (norm_any u r y R1).mono fun e z ⟨u', e1, e2, e3, e4⟩ => ⟨_, e1, e4, u', rfl, e2, e3.mono hy⟩
end
set_option maxRecDepth 100000 in
set_option maxHeartbeats 4000000 in
theorem same_any (v1 v2 : Value) (r1 r2 : Rg) (w : World) (h1 : RingAt w.heap.size w v1 r1) (h2 : RingAt w.heap.size w v2 r2) (hn : normL r1 = normL r2) : Calls Tryz.prog 28 #[ringV v1 r1, ringV v2 r2] w fun e w' => e = .returned (.bool true) ∧ Below w.heap.size w w' := by
  obtain ⟨N, hN⟩ : ∃ N, w.heap.size = N := ⟨_, rfl⟩
  have HR1 : Hid (RingAt N w v1 r1) := hN ▸ h1
  have HR2 : Hid (RingAt N w v2 r2) := hN ▸ h2
  have hl1 := ringC_len h1
  have hl2 := ringC_len h2
  have HNE : Hid (normL r1 = normL r2) := hn
  rw [hN]
  show Calls Tryz.prog 28 #[.agg (ringC v1 r1).toArray, .agg (ringC v2 r2).toArray] w _
  obtain ⟨cs, hcs⟩ : ∃ cs, ringC v1 r1 = cs := ⟨_, rfl⟩
  obtain ⟨ds, hds⟩ : ∃ ds, ringC v2 r2 = ds := ⟨_, rfl⟩
  rw [hcs, hds]
  have HCS : Hid (ringC v1 r1 = cs) := hcs
  have HDS : Hid (ringC v2 r2 = ds) := hds
  clear h1 h2 hcs hds hn
  go_enter Tryz.func28, Tryz.ntmps28
  go_upto_region 1 with (first
    | (refine wpList_box_new 2 rfl rfl 28 _ rfl N hN _ rfl ?_; intro w1 h1)
    | (refine wpList_box_new 3 rfl rfl 28 _ rfl (N + 1) h1.size _ rfl ?_; intro w2 h2))
  have hz2 : w2.heap.size = N + 2 := h2.size
  have b2 : Below N w w2 := h1.below.trans (h2.below.mono (by omega))
  have HA : Hid (Holds w2 N (ringC v1 r1) 28) := by unfold Hid; rw [HCS.out]; exact h1.holds.below h2.below (by omega)
  have HB : Hid (Holds w2 (N + 1) (ringC v2 r2) 28) := by unfold Hid; rw [HDS.out]; exact h2.holds
  have RA : Hid (RingAt w2.heap.size w2 v1 r1) := (HR1.out.below b2).mono (by omega)
  have RB : Hid (RingAt w2.heap.size w2 v2 r2) := (HR2.out.below b2).mono (by omega)
  have HB2 : Hid (Below N w w2) := b2
  clear b2 h1 h2
  refine region_by_two (by kernel_rfl) (by kernel_rfl) 4 rfl [5, 6, 7, 8] (fun | 5 => .ring r1 | 6 => .fresh (N + 2) (normL r1) | 7 => .ring r2 | 8 => .fresh (N + 2) (normL r2) | _ => .any) _ _ rfl rfl (by kernel_rfl) (by kernel_rfl) (by kernel_rfl)
    (List.forall_mem_cons.2 ⟨?s0, List.forall_mem_cons.2 ⟨?s1, List.forall_mem_cons.2 ⟨?s2, List.forall_mem_cons.2 ⟨?s3, fun o ho => nomatch ho⟩⟩⟩⟩) ?e
  case s0 => exact sa_load28 2 5 rfl rfl rfl (by decide) N rfl v1 r1 HA.out RA.out rfl
  case s1 => exact sa_call1g 8 (.tmp 5) _ 6 (.ring r1) rfl rfl rfl (.new 5 (by kernel_rfl) (show 5 < 21 by decide)) (enters_of Tryz.func8 (by kernel_rfl) rfl) (fun v y hg q => c_normF (N + 2) r1 v y (by have := hg.size; omega) q)
  case s2 => exact sa_load28 3 7 rfl rfl rfl (by decide) (N + 1) rfl v2 r2 HB.out RB.out rfl
  case s3 => exact sa_call1g 8 (.tmp 7) _ 8 (.ring r2) rfl rfl rfl (.new 7 (by kernel_rfl) (show 7 < 21 by decide)) (enters_of Tryz.func8 (by kernel_rfl) rfl) (fun v y hg q => c_normF (N + 2) r2 v y (by have := hg.size; omega) q)
  case e =>
  intro f a x hov hgr hfa hno
  obtain ⟨v5, f5, _⟩ := hfa 5 (by decide) ⟨_, List.mem_cons_self, rfl⟩
  obtain ⟨v6, f6, u6, rfl, R6, F6⟩ := hfa 6 (by decide) ⟨_, List.mem_cons_of_mem _ List.mem_cons_self, rfl⟩
  obtain ⟨v7, f7, _⟩ := hfa 7 (by decide) ⟨_, List.mem_cons_of_mem _ (List.mem_cons_of_mem _ List.mem_cons_self), rfl⟩
  obtain ⟨v8, f8, u8, rfl, R8, F8⟩ := hfa 8 (by decide) ⟨_, List.mem_cons_of_mem _ (List.mem_cons_of_mem _ (List.mem_cons_of_mem _ List.mem_cons_self)), rfl⟩
  have hxz := hgr.size
  have HAx := HA.out.below hgr (by omega)
  have HBx := HB.out.below hgr (by omega)
  refine ⟨wanted_none rfl _, op_store28 (.tmp 2) (.tmp 6) rfl N (hov.old (hno 2 (by decide))) _ (ringC u6 (normL r1)) (hov.get (show 6 < 21 by decide) f6) HAx hl1 (ringC_len R6) (ringC_one R6) (fun w3 h3 => ?_)⟩
  have HBy : Holds w3 (N + 1) (ringC v2 r2) 28 := by unfold Holds; rw [h3.others (N + 1) (by omega)]; exact HBx
  refine ⟨wanted_none rfl _, op_store28 (.tmp 3) (.tmp 8) rfl (N + 1) (hov.old (hno 3 (by decide))) _ (ringC u8 (normL r2)) (hov.get (show 8 < 21 by decide) f8) HBy hl2 (ringC_len R8) (ringC_one R8) (fun w4 h4 => ?_)⟩
  have hf : f = fun s => if s = 5 then some v5 else if s = 6 then some (ringV u6 (normL r1)) else if s = 7 then some v7 else if s = 8 then some (ringV u8 (normL r2)) else none := by
    funext s
    by_cases e : s = 5
    · subst e; rw [if_pos rfl]; exact f5
    · rw [if_neg e]
      by_cases e : s = 6
      · subst e; rw [if_pos rfl]; exact f6
      · rw [if_neg e]
        by_cases e : s = 7
        · subst e; rw [if_pos rfl]; exact f7
        · rw [if_neg e]
          by_cases e : s = 8
          · subst e; rw [if_pos rfl]; exact f8
          · rw [if_neg e]
            exact hno s (by simp; omega)
  have ha : a = ⟨#[.agg cs.toArray, .agg ds.toArray, .pointer (some ⟨N, 0, none⟩), .pointer (some ⟨N + 1, 0, none⟩), .bool false, v5, ringV u6 (normL r1), v7, ringV u8 (normL r2), undef, undef, undef, undef, undef, undef, undef, undef, undef, undef, undef, undef], []⟩ := by
    rw [hov.eq, hf]; rfl
  subst ha
  have U : Outs (fun b => b = N ∨ b = N + 1) x w4 := (Outs.ofTurned h3 (Or.inl rfl)).trans (Outs.ofTurned h4 (Or.inr rfl))
  have HA4 : Holds w4 N (ringC u6 (normL r1)) 28 := by unfold Holds; rw [h4.others N (by omega)]; exact h3.holds
  have HB4 : Holds w4 (N + 1) (ringC u8 (normL r2)) 28 := h4.holds
  have R6' := (R6.outs F6 U (Nat.le_refl _) (by omega)).mono U.size
  have R8' := (R8.outs F8 U (Nat.le_refl _) (by omega)).mono U.size
  have B4 : Hid (Below N w w4) := (HB2.out.trans (hgr.mono (by omega))).trans (U.below (by omega) (by omega))
  have hz4 : N ≤ w4.heap.size := by have := U.size; omega
  rw [← HNE.out] at HB4 R8'
  have hol : (normL r1).2.length = 8 := R6'.own
  have ho16 : (ownV (normL r1).2).length = 16 := by rw [ownV_len, hol]
  have heq : ∀ W, (Op.equalIn 10000 26 (.agg (ownV (normL r1).2).toArray) (.agg (ownV (normL r1).2).toArray)).run Tryz.prog W = .ok true W := fun W => eql_os _ hol W
  have ra : w4.rangeAt N 1 (ownV (normL r1).2) := HA4.range 1 _ (fun j v hv => by rw [Nat.add_comm]; exact hv)
  have rb : w4.rangeAt (N + 1) 1 (ownV (normL r1).2) := HB4.range 1 _ (fun j v hv => by rw [Nat.add_comm]; exact hv)
  have ca : w4.cell? ⟨N, 0, none⟩ = some u6 := HA4.cell 0
  have cb : w4.cell? ⟨N + 1, 0, none⟩ = some u8 := HB4.cell 0
  have M6 := R6'.mem
  have M8 := R8'.mem
  clear hfa hno hov hgr HAx HBx HBy h3 h4 hf f5 f6 f7 f8 R6 R8 R6' R8' U HA HB RA RB HA4 HB4 hl1 hl2
  generalize ownV (normL r1).2 = on at *
  generalize (normL r1).1 = ml at *
  have HEq : Hid (Calls Tryz.prog 47 #[u6, u8] w4 fun e w' => e = .returned (.bool true) ∧ Below w4.heap.size w4 w') := equal_same _ _ u6 u8 ml w4 M6 M8 (Nat.le_refl _) (Nat.le_refl _)
  clear M6 M8
  go_wp2_with (first
    | (refine wpList_load_part rfl 26 _ rfl N 1 rfl on _ ra und26 rfl (by rw [siz26, ho16]) ?_)
    | (refine wpList_load_part rfl 26 _ rfl (N + 1) 1 rfl on _ rb und26 rfl (by rw [siz26, ho16]) ?_)
    | (go_at_call 47; refine HEq.out.mono ?_; rintro e w5 ⟨rfl, b5⟩))
  go_ret
  exact ⟨rfl, B4.out.trans (b5.mono hz4)⟩
end Go.Proofs.YthmnjebmnocoiaaGreat
