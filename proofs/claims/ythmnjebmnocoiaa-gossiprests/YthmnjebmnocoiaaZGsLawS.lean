/- The law's region 23: Plan of Claimant, into a new box. -/
import Derived.Test.YthmnjebmnocoiaaZGsLawR
namespace Go.Proofs.Ythmnjebmnocoiaa
open Go.RowKit
theorem nobox (u : Value) (hu : u = .slice none 0 0) : ∀ o : Nat, ∀ m n : Int, (ringC u ([], noOs))[o]? = some (.int .i64 m) → (ringC u ([], noOs))[o + 1]? = some (.int .i64 n) → False := by
  subst hu
  intro o m n h1 h2
  have hl : o < 17 := (List.getElem?_eq_some_iff.1 h1).1
  have : ∀ o, o < 17 → (∀ m n, (ringC (.slice none 0 0) ([], noOs))[o]? = some (.int .i64 m) → (ringC (.slice none 0 0) ([], noOs))[o + 1]? = some (.int .i64 n) → False) := by
    intro o ho m n
    match o, ho with
    | 0, _ => intro h; cases h
    | 1, _ => intro _ h; cases h
    | 2, _ => intro h; cases h
    | 3, _ => intro _ h; cases h
    | 4, _ => intro h; cases h
    | 5, _ => intro _ h; cases h
    | 6, _ => intro h; cases h
    | 7, _ => intro _ h; cases h
    | 8, _ => intro h; cases h
    | 9, _ => intro _ h; cases h
    | 10, _ => intro h; cases h
    | 11, _ => intro _ h; cases h
    | 12, _ => intro h; cases h
    | 13, _ => intro _ h; cases h
    | 14, _ => intro h; cases h
    | 15, _ => intro _ h; cases h
    | 16, _ => intro h; cases h
    | k + 17, ho => exact absurd ho (by omega)
  exact this o hl m n h1 h2
/-- A ring's members do not lie in a new box: what is stored there leaves them. -/
theorem RingAt.apart {x y : World} {g : Nat} {u : Value} {r : Rg} {cs : List Value} (h : RingAt x.heap.size x u r) (hg : Holds x g (ringC (.slice none 0 0) ([], noOs)) 28) (ht : Turned g x y cs 28) : RingAt y.heap.size y u r := by
  obtain ⟨⟨a, cap, e, hcp, hc⟩, ho⟩ := h
  refine ⟨⟨a, cap, e, hcp, ?_⟩, ho⟩
  rcases hc with h0 | ⟨b, o, e1, h1, h2⟩
  · exact Or.inl h0
  · by_cases h0 : r.1.length = 0
    · exact Or.inl h0
    refine Or.inr ⟨b, o, e1, by rw [ht.size]; exact h1, ?_⟩
    have hb : b ≠ g := fun e => by
      subst e
      obtain ⟨m, hm⟩ : ∃ m, r.1[0]? = some m := ⟨_, List.getElem?_eq_getElem (by omega)⟩
      obtain ⟨q0, q1, _⟩ := h2 0 m hm
      rw [Nat.zero_mul, Nat.add_zero] at q0 q1
      rw [hg.cell] at q0 q1
      exact nobox _ rfl o _ _ q0 q1
    have hh : y.heap[b]? = x.heap[b]? := ht.others b hb
    intro i m hm
    obtain ⟨q0, q1, q2⟩ := h2 i m hm
    exact ⟨by rw [← q0]; unfold World.cell?; rw [hh], by rw [← q1]; unfold World.cell?; rw [hh], by rw [← q2]; unfold World.cell?; rw [hh]⟩
def law23 : Array Oper := #[{ dst := some 118, op := Op.load 28 (Operand.tmp 6), type := 28, pos := "law.go:86", after := #[], guard := none }, { dst := some 119, op := Op.load 28 (Operand.tmp 6), type := 28, pos := "law.go:86", after := #[], guard := none }, { dst := some 120, op := Op.call { callee := Callee.value (Operand.func 12), args := #[Operand.tmp 119], argTypes := #[28] }, type := 3, pos := "law.go:86", after := #[{ on := 1, ground := Ground.data }], guard := none }, { dst := some 121, op := Op.call { callee := Callee.value (Operand.func 11), args := #[Operand.tmp 118, Operand.tmp 120], argTypes := #[28, 3] }, type := 28, pos := "law.go:86", after := #[{ on := 0, ground := Ground.data }, { on := 2, ground := Ground.data }, { on := 2, ground := Ground.chain }], guard := none }, { dst := some 17, op := Op.alloc 28, type := 0, pos := "law.go:86", after := #[], guard := none }, { dst := none, op := Op.store 28 (Operand.tmp 17) (Operand.tmp 121), type := 0, pos := "law.go:86", after := #[{ on := 4, ground := Ground.data }, { on := 3, ground := Ground.data }, { on := 3, ground := Ground.chain }, { on := 0, ground := Ground.phase }, { on := 1, ground := Ground.phase }, { on := 2, ground := Ground.phase }, { on := 3, ground := Ground.phase }, { on := 4, ground := Ground.phase }], guard := none }]
set_option maxRecDepth 100000 in
set_option maxHeartbeats 2000000 in
theorem law_r23 {Q : Exit → Act → World → Prop} {a0 : Act} {w : World} {ra : Rg} (hz : a0.tmps.size = 150) (g6 : Nat) (h6 : a0.eval (.tmp 6) = .pointer (some ⟨g6, 0, none⟩)) (B6 : BoxIn w g6 ra) (F1 : RFit ra) (hend : ∀ a x g, After [118, 119, 120, 121, 17] a0 a → a.eval (.tmp 17) = .pointer (some ⟨g, 0, none⟩) → BoxIn x g (planL ra (claimantL ra)) → Gr w x → Q .normal a x) : (Code.region 23 law23 true).wp Try.prog Q a0 w := by
  obtain ⟨u6, H6, R6⟩ := B6
  obtain ⟨H, hH⟩ : ∃ H, w.heap.size = H := ⟨_, rfl⟩
  refine region_by_last (by kernel_rfl) (by kernel_rfl) 5 rfl [118, 119, 120, 121, 17] (fun | 118 => .ring ra | 119 => .ring ra | 120 => .val (.int .i64 (claimantL ra)) | 121 => .ring (planL ra (claimantL ra)) | 17 => .box H | _ => .any) _ rfl (by kernel_rfl) (by kernel_rfl)
    (List.forall_mem_cons.2 ⟨?s0, List.forall_mem_cons.2 ⟨?s1, List.forall_mem_cons.2 ⟨?s2, List.forall_mem_cons.2 ⟨?s3, List.forall_mem_cons.2 ⟨?s4, fun o ho => nomatch ho⟩⟩⟩⟩⟩) ?e
  case s0 => exact sa_load28 6 118 rfl rfl rfl (by decide) g6 h6 _ ra H6 R6 rfl
  case s1 => exact sa_load28 6 119 rfl rfl rfl (by decide) g6 h6 _ ra H6 R6 rfl
  case s2 => exact sa_call1 12 (.tmp 119) _ 120 (.ring ra) rfl rfl rfl (.new 119 (by kernel_rfl) (by rw [hz]; decide)) (enters_of Try.func12 (by kernel_rfl) rfl) (fun v y q => c_claimant ra v y q)
  case s3 => exact sa_call2 11 (.tmp 118) (.tmp 120) _ 121 (.ring ra) (.val (.int .i64 (claimantL ra))) rfl rfl rfl (.new 118 (by kernel_rfl) (by rw [hz]; decide)) (.new 120 (by kernel_rfl) (by rw [hz]; decide)) (enters_of Try.func11 (by kernel_rfl) rfl) (fun v s y q1 q2 => c_plan ra F1 (claimantL ra) v s y q1 q2)
  case s4 => exact sa_alloc28 17 H rfl rfl rfl (Nat.le_of_eq hH.symm) rfl
  case e =>
  intro f a x hov hgr hfa hno
  obtain ⟨v17, f17, g, rfl, hgH, Hg⟩ := hfa 17 (by decide) ⟨_, List.mem_cons_of_mem _ (List.mem_cons_of_mem _ (List.mem_cons_of_mem _ (List.mem_cons_of_mem _ List.mem_cons_self))), rfl⟩
  obtain ⟨v121, f121, ut, rfl, Rt⟩ := hfa 121 (by decide) ⟨_, List.mem_cons_of_mem _ (List.mem_cons_of_mem _ (List.mem_cons_of_mem _ List.mem_cons_self)), rfl⟩
  refine ⟨wanted_none rfl _, op_store28 (.tmp 17) (.tmp 121) rfl g (hov.get (by rw [hz]; decide) f17) _ (ringC ut (planL ra (claimantL ra))) (hov.get (by rw [hz]; decide) f121) Hg rfl (ringC_len Rt) (ringC_one Rt) (fun w6 k6 => ?_)⟩
  exact hend a w6 g ⟨hov.size, hov.defers, fun s hs => hov.old (hno s hs)⟩ (hov.get (by rw [hz]; decide) f17) ⟨ut, k6.holds, Rt.apart Hg k6⟩ (Below.trans hgr (k6.below (by rw [hH]; exact hgH)))
end Go.Proofs.Ythmnjebmnocoiaa
