/- The law's same (6). -/
import Derived.Test.YthmnjebmnocoiaaGreatYGsRefB
namespace Go.Proofs.YthmnjebmnocoiaaGreat
open Go.RowKit

theorem run_eql9 (s t : ByteArray) (w : World) : (binOp .eql 9 (.string s) (.string t)).run Tryz.prog w = .ok (.bool (s.toList == t.toList)) w := by kernel_rfl
section
variable {ops : Array Oper} {D : List Nat} {T : Nat → Fk} {a0 : Act} {w : World} {Q : Exit → Act → World → Prop} {o : Oper}
theorem sa_eql9 (x1 x2 : Operand) (rt : TypeId) (d : Nat) (s t : ByteArray) (ho : o.op = .binOp .eql 9 x1 x2 rt) (hd : o.dst = some d) (hg : o.guard = none) (h1 : Has ops D T a0 o x1 (.val (.string s))) (h2 : Has ops D T a0 o x2 (.val (.string t))) (hT : T d = .val (.bool (s.toList == t.toList))) : StepAt ops D T a0 w Q o := fun f a y c => by
  refine ⟨wanted_none hg _, ?_⟩
  have e1 : a.eval x1 = .string s := h1.get c
  have e2 : a.eval x2 = .string t := h2.get c
  unfold Oper.wp execOp
  simp only [ho, e1, e2, Sem.run_bind, run_eql9, Sem.run_pure]
  refine ⟨_, rfl, Gr.refl _, fun d' hd' => ?_⟩
  rw [hd] at hd'
  cases hd'
  rw [hT]
  rfl
end
theorem c_bytes (r : Rg) (hf : RFit r) (v : Value) (y : World) (h : (Fk.ring r).holds v y) : Calls Tryz.prog 30 #[v] y fun e z => ∃ u, e = .returned u ∧ Gr y z ∧ (Fk.val (.string (strL (bytesR (normL r))))).holds u z := by
  obtain ⟨u, rfl, R1⟩ := h
  exact (refBytes_any u r hf y R1).mono fun e z ⟨e1, e2⟩ => ⟨_, e1, e2, rfl⟩
set_option maxRecDepth 100000 in
set_option maxHeartbeats 4000000 in
theorem lawSame_any (va vb : Value) (ra rb : Rg) (ha : RFit ra) (hb : RFit rb) (w : World) (h1 : RingAt w.heap.size w va ra) (h2 : RingAt w.heap.size w vb rb) :
    Calls Tryz.prog 7 #[ringV va ra, ringV vb rb] w fun e w' => e = .returned (.bool ((strL (bytesR (normL ra))).toList == (strL (bytesR (normL rb))).toList)) ∧ Below w.heap.size w w' := by
  obtain ⟨N, hN⟩ : ∃ N, w.heap.size = N := ⟨_, rfl⟩
  have HA : Hid (RingAt N w va ra) := hN ▸ h1
  have HB : Hid (RingAt N w vb rb) := hN ▸ h2
  rw [hN]
  show Calls Tryz.prog 7 #[.agg (ringC va ra).toArray, .agg (ringC vb rb).toArray] w _
  clear h1 h2
  go_enter Tryz.func7, Tryz.ntmps7
  go_upto_region 1 with (first
    | (refine wpList_box_new 2 rfl rfl 28 _ rfl N hN _ rfl ?_; intro w1 h1)
    | (refine wpList_box_new 3 rfl rfl 28 _ rfl (N + 1) h1.size _ rfl ?_; intro w2 h2))
  have hb2 : Below N w w2 := h1.below.trans (h2.below.mono (by omega))
  have hz2 := h2.size
  have hN1 : Holds w2 N (ringC va ra) 28 := h1.holds.below h2.below (by omega)
  have hN2 : Holds w2 (N + 1) (ringC vb rb) 28 := h2.holds
  have RA : RingAt w2.heap.size w2 va ra := (HA.out.below hb2).mono (by omega)
  have RB : RingAt w2.heap.size w2 vb rb := (HB.out.below hb2).mono (by omega)
  clear h1 h2
  refine region_by (by kernel_rfl) (by kernel_rfl) [5, 6, 7, 8, 9, 4] (fun | 5 => .ring ra | 6 => .val (.string (strL (bytesR (normL ra)))) | 7 => .ring rb | 8 => .val (.string (strL (bytesR (normL rb)))) | 9 => .val (.bool ((strL (bytesR (normL ra))).toList == (strL (bytesR (normL rb))).toList)) | 4 => .val (.bool ((strL (bytesR (normL ra))).toList == (strL (bytesR (normL rb))).toList)) | _ => .any) (by kernel_rfl)
    (List.forall_mem_cons.2 ⟨?s0, List.forall_mem_cons.2 ⟨?s1, List.forall_mem_cons.2 ⟨?s2, List.forall_mem_cons.2 ⟨?s3, List.forall_mem_cons.2 ⟨?s4, List.forall_mem_cons.2 ⟨?s5, fun o ho => nomatch ho⟩⟩⟩⟩⟩⟩) ?e6
  case s0 => exact sa_load28 2 5 rfl rfl rfl (by decide) N rfl va ra hN1 RA rfl
  case s1 => exact sa_call1 30 (.tmp 5) _ 6 (.ring ra) rfl rfl rfl (.new 5 (by kernel_rfl) (show 5 < 10 by decide)) (enters_of Tryz.func30 (by kernel_rfl) rfl) (fun v y q => c_bytes ra ha v y q)
  case s2 => exact sa_load28 3 7 rfl rfl rfl (by decide) (N + 1) rfl vb rb hN2 RB rfl
  case s3 => exact sa_call1 30 (.tmp 7) _ 8 (.ring rb) rfl rfl rfl (.new 7 (by kernel_rfl) (show 7 < 10 by decide)) (enters_of Tryz.func30 (by kernel_rfl) rfl) (fun v y q => c_bytes rb hb v y q)
  case s4 => exact sa_eql9 (.tmp 6) (.tmp 8) _ 9 _ _ rfl rfl rfl (.new 6 (by kernel_rfl) (show 6 < 10 by decide)) (.new 8 (by kernel_rfl) (show 8 < 10 by decide)) rfl
  case s5 => exact sa_move (.tmp 9) 4 _ (Or.inr rfl) rfl rfl (.new 9 (by kernel_rfl) (show 9 < 10 by decide)) rfl
  case e6 =>
    intro f a x hov hgr hfa hno
    obtain ⟨v5, f5, h5⟩ := hfa 5 (by decide) ⟨_, (List.mem_cons_self), rfl⟩
    obtain ⟨v6, f6, h6⟩ := hfa 6 (by decide) ⟨_, (List.mem_cons_of_mem _ (List.mem_cons_self)), rfl⟩
    obtain ⟨v7, f7, h7⟩ := hfa 7 (by decide) ⟨_, (List.mem_cons_of_mem _ (List.mem_cons_of_mem _ (List.mem_cons_self))), rfl⟩
    obtain ⟨v8, f8, h8⟩ := hfa 8 (by decide) ⟨_, (List.mem_cons_of_mem _ (List.mem_cons_of_mem _ (List.mem_cons_of_mem _ (List.mem_cons_self)))), rfl⟩
    obtain ⟨v9, f9, h9⟩ := hfa 9 (by decide) ⟨_, (List.mem_cons_of_mem _ (List.mem_cons_of_mem _ (List.mem_cons_of_mem _ (List.mem_cons_of_mem _ (List.mem_cons_self))))), rfl⟩
    obtain ⟨v4, f4, h4⟩ := hfa 4 (by decide) ⟨_, (List.mem_cons_of_mem _ (List.mem_cons_of_mem _ (List.mem_cons_of_mem _ (List.mem_cons_of_mem _ (List.mem_cons_of_mem _ (List.mem_cons_self)))))), rfl⟩
    have hf : f = fun s => if s = 5 then some v5 else if s = 6 then some v6 else if s = 7 then some v7 else if s = 8 then some v8 else if s = 9 then some v9 else if s = 4 then some v4 else none := by
      funext s
      by_cases e : s = 5
      · subst e; rw [if_pos rfl]; exact f5
      · rw [if_neg e]
        by_cases e : s = 6
        · subst e; rw [if_pos rfl]; exact f6
        · rw [if_neg e]
          by_cases e : s = 7
          · subst e; rw [if_pos rfl]; exact f7
          · rw [if_neg e]
            by_cases e : s = 8
            · subst e; rw [if_pos rfl]; exact f8
            · rw [if_neg e]
              by_cases e : s = 9
              · subst e; rw [if_pos rfl]; exact f9
              · rw [if_neg e]
                by_cases e : s = 4
                · subst e; rw [if_pos rfl]; exact f4
                · rw [if_neg e]
                  exact hno s (by simp; omega)
    have e4 : v4 = .bool ((strL (bytesR (normL ra))).toList == (strL (bytesR (normL rb))).toList) := h4
    have ha' : a = ⟨#[.agg (ringC va ra).toArray, .agg (ringC vb rb).toArray, .pointer (some ⟨N, 0, none⟩), .pointer (some ⟨N + 1, 0, none⟩), .bool ((strL (bytesR (normL ra))).toList == (strL (bytesR (normL rb))).toList), v5, v6, v7, v8, v9], []⟩ := by
      rw [hov.eq, hf, e4]; rfl
    subst ha'
    have hbx : Below N w x := hb2.trans (Below.mono hgr (by omega))
    clear hfa hf hov hno f5 f6 f7 f8 f9 f4 h5 h6 h7 h8 h9 h4 e4 hN1 hN2 RA RB
    obtain ⟨res, hres⟩ : ∃ res, ((strL (bytesR (normL ra))).toList == (strL (bytesR (normL rb))).toList) = res := ⟨_, rfl⟩
    have HRES : Hid (((strL (bytesR (normL ra))).toList == (strL (bytesR (normL rb))).toList) = res) := hres
    rw [hres]
    clear hres
    go_wp2
    go_ret
    exact ⟨by rw [HRES.out]; rfl, hbx⟩
theorem same_if {a b : Rg} (h : normL a = normL b) : ((strL (bytesR (normL a))).toList == (strL (bytesR (normL b))).toList) = true := by rw [h]; simp
end Go.Proofs.YthmnjebmnocoiaaGreat
