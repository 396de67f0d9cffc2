/- Bytes (28): the number of dots, and each one's actor and N. -/
import Derived.Test.YtbmeflildmeecaaPkBytes
import Derived.Test.YtbmeflildmeecaaClOps
namespace Go.Proofs.Ytbmeflildmeecaa
open Go.RowKit Go.Shelf Go.Sort Go.Lib Pk
attribute [local go_sem] Oper.semAt_some

/-- The numbers fit. -/
def Fit (c : List Dt) : Prop := ∀ d ∈ c, d.1 < 18446744073709551616 ∧ d.2 < 18446744073709551616
theorem Fit.get {c : List Dt} (h : Fit c) (a : Nat) : getN c a < 18446744073709551616 := getN_lt (by omega) (fun d hd => (h d hd).2)
theorem norm_mem {c : List Dt} {d : Dt} (h : d ∈ norm c) : d ∈ c := by
  have hR := norm_right c
  have h0 := hR.2 d h
  have hg : getN (norm c) d.1 = d.2 := by
    have hge := getN_ge h
    have hm := getN_mem (l := norm c) (a := d.1) (by omega)
    have : ∀ (l : List Dt), l.Pairwise (fun x y => x.1 < y.1) → ∀ x ∈ l, ∀ y ∈ l, x.1 = y.1 → x = y := by
      intro l
      induction l with
      | nil => intro _ x hx; cases hx
      | cons e l ih =>
        intro hp x hx y hy hxy
        have h1 := (List.pairwise_cons.1 hp).1
        rcases List.mem_cons.1 hx with rfl | hx <;> rcases List.mem_cons.1 hy with rfl | hy
        · rfl
        · have := h1 y (by assumption); omega
        · have := h1 x (by assumption); omega
        · exact ih (List.pairwise_cons.1 hp).2 x hx y hy hxy
    have := this _ hR.1 _ hm _ h rfl
    rw [← this]
  rw [getN_norm] at hg
  have := getN_mem (l := c) (a := d.1) (by omega)
  rw [hg] at this
  exact this
theorem Fit.norm {c : List Dt} (h : Fit c) : Fit (norm c) := fun d hd => h d (norm_mem hd)
theorem posD_norm (c : List Dt) : posD (norm c) = norm c := List.filter_eq_self.2 (fun d hd => by simpa using (norm_right c).2 d hd)
def dotB (d : Dt) : List UInt8 := numL d.1 ++ numL d.2
def bytesR (c : List Dt) : List UInt8 := numL c.length ++ c.flatMap dotB
def bytesC (c : List Dt) : List UInt8 := bytesR (norm c)
theorem dotB_len {c : List Dt} (h : Fit c) : (c.flatMap dotB).length ≤ 20 * c.length := by
  induction c with
  | nil => simp
  | cons d c ih =>
    have h1 := numL_len10 d.1 (h d (by simp)).1
    have h2 := numL_len10 d.2 (h d (by simp)).2
    have := ih (fun x hx => h x (by simp [hx]))
    simp only [List.flatMap_cons, List.length_append, List.length_cons, dotB]
    omega

theorem wr_own {β : Type} (B : Nat) (f : β → List UInt8) : Own (fun s W => Wr W B (f s)) := fun s X Y row hs hg hr => by
  obtain ⟨v, h1, h2⟩ := hs
  obtain ⟨v', a, b, _⟩ := holdsRow_own (B + 1) B 66 5 1 (fun s => (f s).length) (fun s => (f s).map byteV) (fun _ _ => True) s X Y row ⟨v, h1, h2, trivial⟩ hg hr
  exact ⟨v', a, b⟩
theorem num_first (W : World) (n : Nat) (hn : n < 18446744073709551616) :
    Calls Try.prog 45 #[.pointer (some ⟨W.heap.size, 0, none⟩), .slice (some ⟨W.heap.size + 1, 0, none⟩) 1 1] ((W.alloc (.cells #[.slice none 0 0] 66)).alloc (.cells #[.int .u64 (n : Int)] 24)) fun e w' =>
      e = .returned (.pointer (some ⟨W.heap.size, 0, none⟩)) ∧ Wr w' W.heap.size (numL n) ∧ WUpd W.heap.size ((W.alloc (.cells #[.slice none 0 0] 66)).alloc (.cells #[.int .u64 (n : Int)] 24)) w' := by
  have hl := numL_len10 n hn
  have hk := keep_new (W.alloc (.cells #[.slice none 0 0] 66)) [.int .u64 (n : Int)] 24 (by decide) W.heap.size (by simp)
  have hc := (holds_new (W.alloc (.cells #[.slice none 0 0] 66)) [.int .u64 (n : Int)] 24).at 0 _ rfl
  rw [World.size_alloc] at hk hc
  have hw : Wr ((W.alloc (.cells #[.slice none 0 0] 66)).alloc (.cells #[.int .u64 (n : Int)] 24)) W.heap.size [] := Wr.alloc ⟨_, holds_new W [.slice none 0 0] 66, World.ownsRow_nil _ _ _ _⟩ _
  have := wnums_any W.heap.size [] [n] (by simpa using hn) (W.heap.size + 1) 0 1 _ hw hk (fun i x hx => by
    match i, hx with
    | 0, hx => cases hx; exact hc
    | i + 1, hx => simp at hx) (by simp; omega) (by simp)
  simpa using this
theorem num_two (W : World) (B : Nat) (bs : List UInt8) (x : Dt) (hx : x.1 < 18446744073709551616 ∧ x.2 < 18446744073709551616) (hl : bs.length + 30 ≤ 140737488355328) (hw : Wr W B bs) :
    Calls Try.prog 45 #[.pointer (some ⟨B, 0, none⟩), .slice (some ⟨W.heap.size, 0, none⟩) 2 2] (W.alloc (.cells #[.int .u64 (x.1 : Int), .int .u64 (x.2 : Int)] 24)) fun e w' =>
      e = .returned (.pointer (some ⟨B, 0, none⟩)) ∧ Wr w' B (bs ++ dotB x) ∧ WUpd B (W.alloc (.cells #[.int .u64 (x.1 : Int), .int .u64 (x.2 : Int)] 24)) w' := by
  have h1 := numL_len10 x.1 hx.1
  have h2 := numL_len10 x.2 hx.2
  have hk := keep_new W [.int .u64 (x.1 : Int), .int .u64 (x.2 : Int)] 24 (by decide) B hw.lt
  have c0 := (holds_new W [.int .u64 (x.1 : Int), .int .u64 (x.2 : Int)] 24).at 0 _ rfl
  have c1 := (holds_new W [.int .u64 (x.1 : Int), .int .u64 (x.2 : Int)] 24).at 1 _ rfl
  have := wnums_any B bs [x.1, x.2] (by intro y hy; simp at hy; rcases hy with rfl | rfl; exact hx.1; exact hx.2) W.heap.size 0 2 _ (hw.alloc (.cells #[.int .u64 (x.1 : Int), .int .u64 (x.2 : Int)] 24)) hk (fun i y hy => by
    match i, hy with
    | 0, hy => cases hy; exact c0
    | 1, hy => cases hy; exact c1
    | i + 2, hy => simp at hy) (by simp; omega) (by simp)
  simpa [dotB] using this
theorem Pk.WUpd.kp {G : Nat → Prop} {B : Nat} {w w' : World} (h : WUpd B w w') (hG : ∀ k, G k → k < B ∨ (k < w.heap.size ∧ k ≠ B ∧ notByte w k)) : Kp G w w' :=
  ⟨h.os, h.tape, h.output, h.size, fun k hk => by rcases hG k hk with q | ⟨q1, q2, q3⟩; exact h.low k q; exact h.other k q1 q2 q3⟩
theorem Pk.WUpd.keeps {B n : Nat} {w w' : World} (h : WUpd B w w') (hB : w.heap[B]?.map Obj.isCells = some true) : KeepsFrom n w w' :=
  ⟨h.size, fun k o _ hk ho => by
    have hlt := (Array.getElem?_eq_some_iff.1 hk).1
    rw [h.other k hlt (fun e => by rw [← e, hk] at hB; simp [ho] at hB) (fun cs fr e => by rw [hk] at e; cases e; cases ho)]
    exact hk⟩

set_option maxRecDepth 100000 in
set_option maxHeartbeats 8000000 in
theorem bytes_any (v : Value) (c : List Dt) (hl : c.length ≤ 1099511627776) (hf : Fit c) (w : World) (hv : Clk (Lt w.heap.size) w v c) :
    Calls Try.prog 28 #[v] w fun e w' => e = .returned (.string (strL (bytesC c))) ∧ Below w.heap.size w w' := by
  obtain ⟨a, cap, rfl, _⟩ := id hv
  have h13 := norm_any _ c (by omega) w hv
  have n1 := norm_len c
  have hfn := hf.norm
  have hps := posD_norm c
  unfold bytesC bytesR
  generalize norm c = d at *
  clear hv hf
  have H13 : Hid (Calls Try.prog 13 #[.slice a c.length cap] w (Makes w d)) := h13
  clear h13
  refine (callsIn_wide (n := 3)).1 ?_
  refine callsIn_of_wp_marks Try.func28 rfl trivial ?_ rfl
  simp only [Try.ntmps28, List.size_toArray, List.length_cons, List.length_nil, Nat.reduceAdd, Nat.reduceSub, Array.replicate_succ, Array.replicate_zero, List.push_toArray, List.append_toArray, List.nil_append, List.cons_append]
  have hwr : IntKind.u64.wrap (d.length : Int) = (d.length : Int) := by rw [wrap_u64]; omega
  gi_wp2_with (first
    | (refine ⟨trivial, ?_⟩; gi_at_call 38; refine (dots_in Fence.wide 2 trivial rfl _ _ _ _).mono ?_; rintro e w' ⟨rfl, rfl⟩)
    | (refine ⟨trivial, ?_⟩; gi_at_call 45; refine (callsIn_wide.2 (num_first w1 d.length (by omega))).mono ?_; rintro e w3 ⟨rfl, hW3, hU3⟩)
    | (refine ⟨trivial, ?_⟩; gi_at_call 13; refine (callsIn_wide.2 H13.out).mono ?_; rintro e w1 ⟨a1, cap1, rfl, hc1, b1⟩))
  obtain ⟨B, hB⟩ : ∃ B, w1.heap.size = B := ⟨_, rfl⟩
  obtain ⟨m3, hm3⟩ : ∃ m3, w3.heap.size = m3 := ⟨_, rfl⟩
  have hB3 : B < m3 := by have := hW3.lt; omega
  have kp3 : Kp (Lt B) w1 w3 := by
    have u := hU3.kp (G := Lt B) (fun k hk => .inl (by omega))
    exact (Kp.ofBelow (below_trans (below_alloc w1 _) (below_alloc _ _)) (fun k hk => by omega)).trans u
  have b0 := (holds_new w3 [.slice a1 d.length cap1] 28).alloc (.cells #[.slice (some ⟨m3, 0, none⟩) 1 1] 59)
  have b2 := holds_new (w3.alloc (.cells #[.slice a1 d.length cap1] 28)) [.slice (some ⟨m3, 0, none⟩) 1 1] 59
  have hW0' := (hW3.alloc (.cells #[.slice a1 d.length cap1] 28)).alloc (.cells #[.slice (some ⟨m3, 0, none⟩) 1 1] 59)
  have kp0 : Kp (Lt B) w1 ((w3.alloc (.cells #[.slice a1 d.length cap1] 28)).alloc (.cells #[.slice (some ⟨m3, 0, none⟩) 1 1] 59)) := kp3.trans (Kp.ofBelow (below_trans (below_alloc w3 _) (below_alloc _ _)) (fun k hk => by omega))
  have hsz : ((w3.alloc (.cells #[.slice a1 d.length cap1] 28)).alloc (.cells #[.slice (some ⟨m3, 0, none⟩) 1 1] 59)).heap.size = m3 + 2 := by simp [hm3]
  rw [hB] at hW0'
  simp only [World.size_alloc, hm3] at b0 b2
  simp only [List.toArray] at b0 b2
  rw [hm3, hB]
  obtain ⟨W0, hW0⟩ : ∃ W0, (w3.alloc (.cells #[.slice a1 d.length cap1] 28)).alloc (.cells #[.slice (some ⟨m3, 0, none⟩) 1 1] 59) = W0 := ⟨_, rfl⟩
  rw [hW0] at b0 b2 hW0' kp0 hsz ⊢
  clear hW0 hU3 kp3 hW3 H13
  have hbw : w.heap.size ≤ B := by have := b1.size; omega
  have hbel : Below w.heap.size w W0 := b1.trans (kp0.below (fun k hk => by omega))
  have hG : ∀ k, (k < B ∨ k = m3) → k < W0.heap.size := fun k hk => by omega
  have hcl : Clk (fun k => k < B ∨ k = m3) W0 (.slice a1 d.length cap1) d := ((hc1.made.mono (H := Lt B) (fun k hk => by omega)).keep kp0).mono (fun k hk => .inl hk)
  have hPx : ∀ e ∈ allD [d], (fun x : Dt => x.1 < 18446744073709551616 ∧ x.2 < 18446744073709551616) e := fun e he => hfn e (by rw [allD_one, hps] at he; exact he)
  refine wpIn_rangeFunc_ownH rfl (by omega) (gf := 55) (lb := #[.pointer (some ⟨m3 + 1, 0, none⟩)]) rfl trivial (enters_of Try.func55 (by kernel_rfl) rfl)
    (dots_stops_of Fence.wide 2 trivial rfl (by omega) (m3 + 1) (fun k => k < B ∨ k = m3) _ [d] (by simp) (by simp; omega) W0 (by omega) hG (b2.at 0 _ rfl) (clks_one (.inr rfl) (b0.at 0 _ rfl) hcl) (fun x : Dt => x.1 < 18446744073709551616 ∧ x.2 < 18446744073709551616) hPx) kp_t (kp_b hG) (Below.refl _ _) (fun _ => rfl)
    (fun pre W => ((Wr W B (numL d.length ++ (pre.map Subtype.val).flatMap dotB)) ∧ Holds W m3 [.slice a1 d.length cap1] 28) ∧ (Below w.heap.size w W ∧ (∀ x ∈ pre.map Subtype.val, x.1 < 18446744073709551616 ∧ x.2 < 18446744073709551616)))
    (fun _ _ _ => False)
    (OwnFrom.and (OwnFrom.and (Own.from (wr_own B (fun pre => numL d.length ++ (List.map Subtype.val pre).flatMap dotB)) _) (Own.from (holds_own _ (fun _ => [.slice a1 d.length cap1]) _) _)) (OwnFrom.and (ownFrom_below (Nat.le_refl _) (by omega)) (ownFrom_pure _ _)))
    (fun _ _ _ _ _ hs _ _ => hs)
    ⟨⟨by simpa using hW0', b0⟩, hbel, by simp⟩
    (fun x a' W => ∃ Bx, m3 < Bx ∧ Holds W Bx [.int .u64 (x.1.1 : Int), .int .u64 (x.1.2 : Int)] 33 ∧ a' = { tmps := #[.slice a1 d.length cap1, undef, .string ⟨#[]⟩, .pointer (some ⟨B, 0, none⟩), .pointer (some ⟨Bx, 0, none⟩), .slice a c.length cap, .slice a1 d.length cap1, .agg #[.slice none 0 0], .slice a1 d.length cap1, .int .i64 (d.length : Int), .int .u64 (d.length : Int), .slice (some ⟨B + 1, 0, none⟩) 1 1, .pointer (some ⟨B, 0, none⟩), .slice a1 d.length cap1, .slice (some ⟨m3, 0, none⟩) 1 1, .func (.func 55) #[] #[.pointer (some ⟨m3 + 1, 0, none⟩)], dotV x.1, undef, undef, undef, undef, undef, undef, undef], defers := [] })
    (fun x a' _ X Y row hs hg hr => by obtain ⟨Bx, h1, h2, h3⟩ := hs; exact ⟨Bx, h1, holds_own Bx (fun (_ : Unit) => [.int .u64 (x.1.1 : Int), .int .u64 (x.1.2 : Int)]) 33 () X Y row h2 hg (fun r e => (hr r e).2), h3⟩)
    ?assign ?body ?done ?stop
  case assign =>
    rintro l pre x W K ⟨⟨h1, h2⟩, hB1, hin⟩ hK
    have hle : w.heap.size ≤ W.heap.size := hB1.size
    have l1 := h1.lt
    have l2 := h2.lt
    gi_wp2
    exact hK _ _ ((KeepsOthers.alloc _ _).from _) ((Kp.refl _ W).alloc (fun k hk => by omega) _) ⟨⟨h1.alloc _, h2.alloc _⟩, hB1.alloc hle _, hin⟩ ⟨W.heap.size, l2, holds_new W [_, _] 33, rfl⟩
  case body =>
    rintro l pre x a' W hl ⟨r, hr⟩ ⟨⟨h1, h2⟩, hB1, hin⟩ ⟨Bx, hBx, bX, rfl⟩ hlt
    obtain ⟨x, hx⟩ := x
    have x0 := bX.at 0 _ rfl
    have x1 := bX.at 1 _ rfl
    have hle : w.heap.size ≤ W.heap.size := hB1.size
    have l1 := h1.lt
    have l2 := h2.lt
    have hlen : (numL d.length ++ (pre.map Subtype.val).flatMap dotB).length + 30 ≤ 140737488355328 := by
      have q1 := numL_len10 d.length (by omega)
      have q2 := dotB_len (c := pre.map Subtype.val) hin
      have q3 : pre.length < d.length := by rw [allD_one, hps] at hlt; exact hlt
      simp only [List.length_append, List.length_map] at q2 ⊢
      omega
    have h45 := num_two W B _ x hx hlen h1
    have hcells : (W.alloc (.cells #[.int .u64 (x.1 : Int), .int .u64 (x.2 : Int)] 24)).heap[B]?.map Obj.isCells = some true := by
      obtain ⟨v, hv, _⟩ := h1.alloc (.cells #[.int .u64 (x.1 : Int), .int .u64 (x.2 : Int)] 24)
      unfold Holds at hv
      rw [hv]; rfl
    gi_wp2_with (refine ⟨trivial, ?_⟩; gi_at_call 45; refine (CallsIn.inRound l (callsIn_wide.2 h45)).mono ?_; rintro e w5 ⟨rfl, hW5, hU5⟩)
    have hkp := (Kp.refl (fun k => k < B ∨ k = m3) W).alloc (fun k hk => by omega) (.cells #[.int .u64 (x.1 : Int), .int .u64 (x.2 : Int)] 24)
    have h2a := h2.alloc (.cells #[.int .u64 (x.1 : Int), .int .u64 (x.2 : Int)] 24)
    have hk5 := hU5.kp (G := fun k => k < B ∨ k = m3) (fun k hk => by
      rcases hk with q | q
      · exact .inl q
      · exact .inr ⟨by have := h2a.lt; omega, by omega, q ▸ h2a.notByte (by decide)⟩)
    refine ⟨((KeepsOthers.alloc _ _).from _).trans (hU5.keeps hcells), hkp.trans hk5, ⟨?_, h2a.wupd hU5 (by omega) (by decide)⟩, (hB1.alloc hle _).trans (hU5.below (by omega)), ?_⟩
    · have : numL d.length ++ ((pre ++ [(⟨x, hx⟩ : { x : Dt // x.1 < 18446744073709551616 ∧ x.2 < 18446744073709551616 })]).map Subtype.val).flatMap dotB = numL d.length ++ (pre.map Subtype.val).flatMap dotB ++ dotB x := by simp
      rw [this]
      exact hW5
    · intro y hy
      simp only [List.map_append, List.map_cons, List.map_nil, List.mem_append, List.mem_singleton] at hy
      rcases hy with q | q
      · exact hin y q
      · rw [q]; exact hx
  case done =>
    rintro D zs W hD hS ⟨⟨h1, h2⟩, hB1, hin⟩ hK
    rw [allD_one, hps] at hS
    rw [hS] at h1
    have h46 := bytes_some B _ W h1
    gi_wp2_with (refine ⟨trivial, ?_⟩; gi_at_call 46; refine (callsIn_wide.2 h46).mono ?_; rintro e w6 ⟨rfl, hw6⟩; have hw6 := hw6.symm; subst hw6)
    refine ⟨by simp, .inl ⟨_, _, rfl, run_takeDeferred hK, ?_⟩⟩
    exact ⟨_, results_tmp rfl _ _ _, rfl, hB1.trans (belowK_b (w := w) (Nat.le_refl _) W D _ _ (by omega) hK rfl rfl)⟩
  case stop =>
    rintro D c pre W _ _ h _
    exact h.elim
end Go.Proofs.Ytbmeflildmeecaa
