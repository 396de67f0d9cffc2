/- What package ring's Sloppy answers. -/
import Derived.Test.YtlliijodilnlgaaRgAmong
namespace Go.Proofs.Ytlliijodilnlgaa
open Go.RowKit

def tgtV (l : List (Int × Int)) : List Value := l.flatMap fun e => [.int .i64 e.1, .int .i64 e.2]
theorem tgtV_len (l : List (Int × Int)) : (tgtV l).length = l.length * 2 := by
  induction l with
  | nil => rfl
  | cons e l ih => simp only [tgtV, List.flatMap_cons, List.length_append, List.length_cons, List.length_nil] at ih ⊢; omega
theorem tgtV_append (l m : List (Int × Int)) : tgtV (l ++ m) = tgtV l ++ tgtV m := by simp [tgtV]
theorem tgtV_at (l : List (Int × Int)) (i : Nat) (e : Int × Int) (h : l[i]? = some e) : (tgtV l)[i * 2]? = some (.int .i64 e.1) ∧ (tgtV l)[i * 2 + 1]? = some (.int .i64 e.2) := by
  induction l generalizing i with
  | nil => simp at h
  | cons x l ih =>
    cases i with
    | zero => simp at h; subst h; exact ⟨rfl, rfl⟩
    | succ i =>
      have := ih i (by simpa using h)
      rw [show (i + 1) * 2 = i * 2 + 1 + 1 by omega, show i * 2 + 1 + 1 + 1 = (i * 2 + 1) + 1 + 1 by omega]
      exact this
theorem full43 : (Try.prog.info? 43).map (fun i => (i.zero, i.size, i.bytes)) = some (some (.agg #[.int .i64 0, .int .i64 0]), 2, 16) := by kernel_rfl
theorem inf43 : ∃ i, Try.prog.info? 43 = some i ∧ i.zero = some (.agg #[.int .i64 0, .int .i64 0]) ∧ i.size = 2 ∧ i.bytes = 16 := by
  have := full43
  cases h : Try.prog.info? 43 with
  | none => simp [h] at this
  | some i =>
    simp [h] at this
    exact ⟨i, rfl, this.1, this.2.1, this.2.2⟩
theorem und38 : Try.prog.underlying 38 = some (.slice 43) := by kernel_rfl
/-- one primary more. -/
def stepS (up : List Int) (s : List (Int × Int) × List Int) (x : Int) : List (Int × Int) × List Int :=
  if up.contains x then (s.1 ++ [(x, x)], s.2) else match s.2 with
    | [] => s
    | y :: ys => (s.1 ++ [(y, x)], ys)
theorem slop_cons (up : List Int) (x : Int) (xs ot : List Int) : slop up (x :: xs) ot = if up.contains x then (x, x) :: slop up xs ot else match ot with | [] => slop up xs [] | y :: ys => (y, x) :: slop up xs ys := by
  cases ot <;> rfl
theorem stepS_slop (up : List Int) : ∀ (f ot : List Int) (T : List (Int × Int)), (f.foldl (stepS up) (T, ot)).1 = T ++ slop up f ot
  | [], ot, T => by simp [slop]
  | x :: xs, ot, T => by
    rw [List.foldl_cons]
    by_cases hx : up.contains x = true
    · rw [stepS, if_pos hx, slop_cons, if_pos hx]
      show (xs.foldl (stepS up) (T ++ [(x, x)], ot)).1 = _
      rw [stepS_slop up xs ot]; simp
    · rw [stepS, if_neg hx, slop_cons, if_neg hx]
      cases ot with
      | nil => exact stepS_slop up xs [] T
      | cons y ys =>
        show (xs.foldl (stepS up) (T ++ [(y, x)], ys)).1 = _
        rw [stepS_slop up xs ys]; simp
theorem foldl_take_succ {α β : Type} (f : β → α → β) (b : β) (l : List α) (k : Nat) (x : α) (h : l[k]? = some x) : (l.take (k + 1)).foldl f b = f ((l.take k).foldl f b) x := by
  rw [List.take_add_one, h, List.foldl_append]; rfl
theorem slop_len_le (up f ot : List Int) : (slop up f ot).length ≤ f.length := by rw [slop_len]; omega
theorem Ints.tail {B : Nat} {w : World} {g o n cap : Nat} {y : Int} {l : List Int} (h : Ints B w (.slice (some ⟨g, o, none⟩) n cap) (y :: l)) : Ints B w (.slice (if cap = 1 then some ⟨g, o, none⟩ else (some (⟨g, o, none⟩ : Addr)).map (·.add 1)) (n - 1) (cap - 1)) l := by
  obtain ⟨a', cap', e, hcp, h0 | ⟨g', o', e1, h1, h2⟩⟩ := h
  · simp at h0
  · obtain ⟨rfl, e4, e5⟩ := Value.slice.inj e
    cases e1
    subst e5
    have hl : n = l.length + 1 := by simpa using e4
    subst hl
    refine ⟨_, _, rfl, by simp at hcp; omega, ?_⟩
    by_cases hz : l.length = 0
    · exact Or.inl hz
    · have hc1 : ¬ cap = 1 := by simp at hcp; omega
      rw [if_neg hc1]
      refine Or.inr ⟨g, o + 1, by rw [Option.map_some, Addr.add_mid], h1, fun j hj => ?_⟩
      rw [show o + 1 + j = o + (j + 1) by omega, h2 (j + 1) (by simp; omega)]
      simp

set_option maxHeartbeats 2000000 in
theorem sloppy_any (B : Nat) (o : List Int) (ho : o.length = 8) (p n : Int) (u : Value) (up : List Int) (w : World) (hu : Ints B w u up) (hB : B ≤ w.heap.size) (hul : up.length ≤ 9223372036854775807) :
    Calls Try.prog 14 #[.agg (intV o).toArray, .int .i64 p, .int .i64 n, u] w fun e w' => ∃ v, e = .returned v ∧ w'.ownsRow w.heap.size 43 2 v (sloppyL o p n up).length (tgtV (sloppyL o p n up)) ∧ Below w.heap.size w w' := by
  obtain ⟨m, hm⟩ : ∃ m, w.heap.size = m := ⟨_, rfl⟩
  rw [hm] at hB ⊢
  obtain ⟨i43, f43, hz43, hs43, hb43⟩ := inf43
  have F43 : Hid (Try.prog.info? 43 = some i43) := f43
  have HW : Hid (∀ W, Calls Try.prog 26 #[.agg (intV o).toArray, .int .i64 p] W fun e w' => ∃ v, e = .returned v ∧ w'.ownsRow W.heap.size 3 1 v (walkL o p).length (intV (walkL o p)) ∧ Below W.heap.size W w') := fun W => walk_any o ho p W
  have HS : Hid (∀ B v W, Ints B W v (walkL o p) → Calls Try.prog 30 #[v, .int .i64 n] W fun e w' => ∃ v1 v2, e = .returned (.tuple #[v1, v2]) ∧ Ints B W v1 (primL o p n) ∧ Ints B W v2 (restL o p n) ∧ ∃ q, w' = W.drewN q) := fun B v W h => split_any B v (walkL o p) n W h
  have hrl : (restL o p n).length ≤ 8 := by have := walkL_len o p; unfold restL; rw [List.length_drop]; omega
  have HA : Hid (∀ v W, Ints W.heap.size W v (restL o p n) → Below m w W → Calls Try.prog 31 #[v, u] W fun e w' => ∃ t, e = .returned t ∧ Ints w'.heap.size w' t (amongL (restL o p n) up) ∧ Below W.heap.size W w') := fun v W h hb => among_any W.heap.size v u _ up W h ((hu.below (hb.mono hB)).mono (by have := hb.size; omega)) (Nat.le_refl _) hrl hul
  have HU : Hid (∀ W x, Below m w W → Calls Try.prog 32 #[u, .int .i64 x] W fun e w' => e = .returned (.bool (up.contains x)) ∧ w' = W) := fun W x hW => contains_any B W u up x (hu.below (hW.mono hB)) hul
  have HO : Hid (o.length = 8) := ho
  have hpl : (primL o p n).length ≤ 8 := by rw [primL_len]; have := cutN_le n (walkL o p); have := walkL_len o p; omega
  have HF : Hid (sloppyL o p n up = ((primL o p n).foldl (stepS up) ([], amongL (restL o p n) up)).1) := by
    show sloppyL o p n up = _
    rw [stepS_slop]; rfl
  clear ho f43 hu hul hrl
  go_enter Try.func14, Try.ntmps14
  go_wp2_with (first
    | (refine wpList_box_new 4 rfl rfl 23 _ rfl m hm _ rfl ?_; intro w1 h1)
    | (refine wpList_load_all rfl 23 _ rfl _ rfl 23 (intV o) 8 3 h1.holds und23 (by rw [siz23, intV_len, HO.out]) ?_)
    | (go_at_call 26; refine (HW.out w1).mono ?_; rintro e w2 ⟨v2, rfl, own2, b2⟩; have I2 := ints_of_row own2; have b02 : Below m w w2 := h1.below.trans (b2.mono (by rw [h1.size]; omega)))
    | (go_at_call 30; refine (HS.out _ _ w2 I2).mono ?_; rintro e w3 ⟨v3, v4, rfl, I3, I4, q, rfl⟩)
    | (go_at_call 31; refine (HA.out v4 (w2.drewN q) (ints_drewN q (by simpa using I4)) (b02.trans (below_drewN m w2 q))).mono ?_; rintro e w5 ⟨v5, rfl, I5, b5⟩; obtain ⟨a3, c3, rfl⟩ := I3.len))
  have hm5 : m ≤ w5.heap.size := by have h5 := b5.size; have h2 := b02.size; simp at h5; omega
  have b05 : Below m w w5 := (b02.trans (below_drewN m w2 q)).trans (b5.mono (by have h2 := b02.size; simp; omega))
  have I3' : Ints w5.heap.size w5 (.slice a3 (primL o p n).length c3) (primL o p n) := ((ints_drewN q I3).below (by simpa using b5)).mono (by have h5 := b5.size; simpa using h5)
  obtain ⟨C, hC⟩ : ∃ C, w5.heap.size = C := ⟨_, rfl⟩
  rw [hC] at I5 I3' hm5
  have HB5 : Hid (Below m w w5) := b05
  have HC : Hid (w5.heap.size = C) := hC
  have HI3 : Hid (∀ W, Below C w5 W → Ints C W (.slice a3 (primL o p n).length c3) (primL o p n)) := fun W hW => I3'.below hW
  have HI5 : Hid (Ints C w5 v5 (amongL (restL o p n) up)) := I5
  clear hC I3' I5 I3 I4 I2 own2 b2 b02 b5 b05 h1 HW HS HA hm hB
  generalize primL o p n = F at HF HI3 hpl ⊢
  generalize amongL (restL o p n) up = OT at HF HI5
  generalize hT : sloppyL o p n up = TT at HF
  have HT : Hid (sloppyL o p n up = TT) := hT
  clear hT
  obtain ⟨fl, hfl⟩ : ∃ fl, F.length = fl := ⟨_, rfl⟩
  have HFL : Hid (F.length = fl) := hfl
  have HTL : Hid (∀ k, k ≤ fl → ((F.take k).foldl (stepS up) ([], OT)).1.length ≤ k) := fun k hk => by
    rw [stepS_slop, List.nil_append]
    have := slop_len_le up (F.take k) OT
    rw [List.length_take] at this; omega
  rw [hfl] at HI3 hpl ⊢
  clear hfl
  go_loopw [10, 11, 27] (fun r t c wr => ∃ k : Nat, k ≤ fl ∧ c = .int .i64 (k : Int) ∧ Ints C wr r ((F.take k).foldl (stepS up) ([], OT)).2 ∧ wr.ownsRow C 43 2 t ((F.take k).foldl (stepS up) ([], OT)).1.length (tgtV ((F.take k).foldl (stepS up) ([], OT)).1) ∧ Below C w5 wr) (fun _ _ c _ => fl - (intOf c).toNat)
  case atStart => exact ⟨0, by omega, rfl, HI5.out, World.ownsRow_nil _ _ _ _, Below.refl _ _⟩
  case round =>
  obtain ⟨k, hk, rfl, hr, hown, hBe⟩ := hrel
  by_cases hlt : k < fl
  · obtain ⟨x, hx⟩ : ∃ x, F[k]? = some x := ⟨_, List.getElem?_eq_getElem (by rw [HFL.out]; exact hlt)⟩
    obtain ⟨g, off, rfl, hcell⟩ := (HI3.out wr hBe).cell k x hx
    have hstep := foldl_take_succ (stepS up) ([], OT) F k x hx
    have hlen := HTL.out k hk
    generalize (F.take k).foldl (stepS up) ([], OT) = S at hr hown hstep hlen
    obtain ⟨T, R⟩ := S
    replace hr : Ints C wr u10 R := hr
    replace hown : wr.ownsRow C 43 2 u11 T.length (tgtV T) := hown
    replace hlen : T.length ≤ k := hlen
    obtain ⟨at_, ct, rfl⟩ := row_slice hown
    obtain ⟨ar, cr, rfl⟩ := hr.len
    have i0 : (0 : Int) ≤ (k : Int) := by omega
    have i1 : (k : Int) < (fl : Int) := by omega
    have hC1 := HU.out wr x (HB5.out.trans (hBe.mono hm5))
    have HOW : Hid (wr.ownsRow C 43 2 (.slice at_ T.length ct) T.length (tgtV T)) := hown
    have HBe : Hid (Below C w5 wr) := hBe
    have hsz : C ≤ wr.heap.size := by have := hBe.size; have := HC.out; omega
    clear hown hBe hx
    by_cases hcx : up.contains x = true
    · have hst : Hid ((F.take (k + 1)).foldl (stepS up) ([], OT) = (T ++ [(x, x)], R)) := by
        show _ = _
        rw [hstep, stepS, if_pos hcx]
      rw [hcx] at hC1
      have hC2 : Hid (Calls Try.prog 32 #[u, .int .i64 x] wr fun e w' => e = .returned (.bool true) ∧ w' = wr) := hC1
      have HR : Hid (Ints C wr (.slice ar R.length cr) R) := hr
      have HNC : Hid (∀ (j : Nat) (u : Value), [Value.int .i64 x, .int .i64 x][j]? = some u → (wr.alloc (.cells #[.int .i64 x, .int .i64 x] 43)).cell? (Addr.add ⟨wr.heap.size, 0, none⟩ j) = some u) := fun j u hu => World.news_of_block (heap_alloc_new wr _) j u hu
      clear hC1 hstep hcx hr
      go_wp2_with (first
        | (go_at_call 32; refine hC2.out.mono ?_; rintro e w2 ⟨rfl, rfl⟩)
        | (at_builtin; refine wpList_append_src rfl (.tmp 35) (.tmp 39) 38 rfl C 43 i43 _ 2 16 und38 F43.out hz43 hs43 hb43 (by rfl) (by omega) _ _ _ (HOW.out.alloc _) rfl [.int .i64 x, .int .i64 x] _ 1 1 rfl (by rfl) (fun _ => ⟨_, rfl, fun j u hu => HNC.out j u hu⟩) (fun u hu => by simp at hu; subst hu; rfl) (by unfold maxLen; omega) (by omega) (by simp; omega) ?_; intro v3 w3 own3 gr3 _))
      have e3 : tgtV T ++ [.int .i64 x, .int .i64 x] = tgtV ((F.take (k + 1)).foldl (stepS up) ([], OT)).1 := by rw [hst.out, tgtV_append]; rfl
      have l3 : T.length + 1 = ((F.take (k + 1)).foldl (stepS up) ([], OT)).1.length := by rw [hst.out]; simp
      rw [e3, l3] at own3
      have b3 := (HBe.out.trans ((Below.refl _ _).alloc hsz _)).grown gr3 (by simp; omega) (fun j e => own3_base HOW.out j e)
      have b3' := ((Below.refl C _).alloc hsz _).grown gr3 (by simp; omega) (fun j e => own3_base HOW.out j e)
      exact ⟨⟨k + 1, by omega, by go_num, by rw [hst.out]; exact HR.out.below b3', own3, b3⟩, by simp [intOf]; omega⟩
    · have hcf : up.contains x = false := by simpa using hcx
      rw [hcf] at hC1
      have hC2 : Hid (Calls Try.prog 32 #[u, .int .i64 x] wr fun e w' => e = .returned (.bool false) ∧ w' = wr) := hC1
      cases R with
      | nil =>
        have hst : Hid ((F.take (k + 1)).foldl (stepS up) ([], OT) = (T, [])) := by
          show _ = _
          rw [hstep, stepS, if_neg hcx]
        have HR : Hid (Ints C wr (.slice ar 0 cr) []) := hr
        clear hC1 hstep hcx hcf hr
        go_wp2_with (go_at_call 32; refine hC2.out.mono ?_; rintro e w2 ⟨rfl, rfl⟩)
        exact ⟨⟨k + 1, by omega, by go_num, by rw [hst.out]; exact HR.out, by rw [hst.out]; exact HOW.out, HBe.out⟩, by simp [intOf]; omega⟩
      | cons y ys =>
        have hst : Hid ((F.take (k + 1)).foldl (stepS up) ([], OT) = (T ++ [(y, x)], ys)) := by
          show _ = _
          rw [hstep, stepS, if_neg hcx]
        obtain ⟨gr, off2, rfl, hy⟩ := hr.cell 0 y rfl
        rw [Nat.add_zero] at hy
        have hyl : (y :: ys).length = ys.length + 1 := rfl
        rw [hyl] at hr ⊢
        have HR : Hid (Ints C wr (.slice (if cr = 1 then some ⟨gr, off2, none⟩ else (some (⟨gr, off2, none⟩ : Addr)).map (·.add 1)) (ys.length + 1 - 1) (cr - 1)) ys) := hr.tail
        have r2 : ∀ w, (Instr.slice 24 (.slice (some ⟨gr, off2, none⟩) (ys.length + 1) cr) (some (.int .i64 1)) none none).run Try.prog w = .ok (.slice (if cr = 1 then some ⟨gr, off2, none⟩ else (some (⟨gr, off2, none⟩ : Addr)).map (·.add 1)) (ys.length + 1 - 1) (cr - 1)) w := fun w => run_slice_from w (some ⟨gr, off2, none⟩) (ys.length + 1) cr 1 (by omega)
        generalize (if cr = 1 then some ⟨gr, off2, none⟩ else (some (⟨gr, off2, none⟩ : Addr)).map (·.add 1)) = a2 at HR r2
        have HNC : Hid (∀ (j : Nat) (u : Value), [Value.int .i64 y, .int .i64 x][j]? = some u → (wr.alloc (.cells #[.int .i64 y, .int .i64 x] 43)).cell? (Addr.add ⟨wr.heap.size, 0, none⟩ j) = some u) := fun j u hu => World.news_of_block (heap_alloc_new wr _) j u hu
        have hpos : (0 : Int) < ((ys.length + 1 : Nat) : Int) := by omega
        generalize ys.length + 1 = yl at HR r2 hpos ⊢
        clear hC1 hstep hcx hcf hr hyl
        go_wp2_with (first
          | (go_at_call 32; refine hC2.out.mono ?_; rintro e w2 ⟨rfl, rfl⟩)
          | (at_builtin; refine wpList_append_src rfl (.tmp 45) (.tmp 51) 38 rfl C 43 i43 _ 2 16 und38 F43.out hz43 hs43 hb43 (by rfl) (by omega) _ _ _ (HOW.out.alloc _) rfl [.int .i64 y, .int .i64 x] _ 1 1 rfl (by rfl) (fun _ => ⟨_, rfl, fun j u hu => HNC.out j u hu⟩) (fun u hu => by simp at hu; rcases hu with rfl | rfl <;> rfl) (by unfold maxLen; omega) (by omega) (by simp; omega) ?_; intro v3 w3 own3 gr3 _))
        have e3 : tgtV T ++ [.int .i64 y, .int .i64 x] = tgtV ((F.take (k + 1)).foldl (stepS up) ([], OT)).1 := by rw [hst.out, tgtV_append]; rfl
        have l3 : T.length + 1 = ((F.take (k + 1)).foldl (stepS up) ([], OT)).1.length := by rw [hst.out]; simp
        rw [e3, l3] at own3
        have b3 := (HBe.out.trans ((Below.refl _ _).alloc hsz _)).grown gr3 (by simp; omega) (fun j e => own3_base HOW.out j e)
        have b3' := ((Below.refl C _).alloc hsz _).grown gr3 (by simp; omega) (fun j e => own3_base HOW.out j e)
        exact ⟨⟨k + 1, by omega, by go_num, by rw [hst.out]; exact HR.out.below b3', own3, b3⟩, by simp [intOf]; omega⟩
  · have e8 : F.take k = F := List.take_of_length_le (by rw [HFL.out]; omega)
    rw [e8, ← HF.out] at hown
    have i1 : ¬ (k : Int) < (fl : Int) := by omega
    obtain ⟨at_, ct, rfl⟩ := row_slice hown
    have HOW : Hid (wr.ownsRow C 43 2 (.slice at_ TT.length ct) TT.length (tgtV TT)) := hown
    have HBe : Hid (Below C w5 wr) := hBe
    clear hown hBe hlt e8 hr
    go_wp2
    go_ret
    rw [HT.out]
    exact ⟨_, rfl, row_base HOW.out hm5, HB5.out.trans (HBe.out.mono hm5)⟩
end Go.Proofs.Ytlliijodilnlgaa
