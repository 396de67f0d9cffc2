/- What the document's own Sloppy answers. -/
import Derived.Test.YtlliijodilnlgaaDoorRgRefC
import Derived.Deep.RegionHeld3
namespace Go.Proofs.YtlliijodilnlgaaDoor
open Go.RowKit

theorem row_grown {w w' : World} {base : Nat} {e : TypeId} {size : Nat} {v : Value} {n : Nat} {xs : List Value} {row : Option Nat} (h : w.ownsRow base e size v n xs) (g : w.grownBy w' row) (hne : ∀ j, v.ownBlock = some j → row ≠ some j) : w'.ownsRow base e size v n xs := by
  refine ⟨h.1, ?_⟩
  rcases h.2 with h0 | ⟨b, cap, cur, e1, e2, e3, e4⟩
  · exact Or.inl h0
  · refine Or.inr ⟨b, cap, cur, e1, e2, ?_, e4⟩
    rw [g.block b (Array.getElem?_eq_some_iff.1 e3).1 (fun q => hne b (by rw [e1]; rfl) q.symm), e3]
def Apart (u t : Value) : Prop := ∀ j, u.ownBlock = some j → t.ownBlock ≠ some j
theorem Apart.symm {u t : Value} (h : Apart u t) : Apart t u := fun j h1 h2 => h j h2 h1
/-- whom the document's loop takes next. -/
theorem find_next : ∀ (rest up U R : List Int), rest.Nodup → amongL rest up = U ++ R →
    (R = [] → ∀ z ∈ rest, up.contains z = true → U.contains z = true) ∧
    (∀ y ys, R = y :: ys → ∃ k0 : Nat, rest[k0]? = some y ∧ up.contains y = true ∧ U.contains y = false ∧ ∀ j : Nat, j < k0 → ∀ z, rest[j]? = some z → up.contains z = true → U.contains z = true)
  | [], up, U, R, _, h => by
    have : U = [] ∧ R = [] := by
      have h2 : ([] : List Int) = U ++ R := h
      exact List.append_eq_nil_iff.1 h2.symm
    obtain ⟨rfl, rfl⟩ := this
    exact ⟨fun _ z hz => by simp at hz, fun y ys e => by cases e⟩
  | z :: rs, up, U, R, hn, h => by
    obtain ⟨hz, hn2⟩ := List.nodup_cons.1 hn
    by_cases hu : up.contains z = true
    · have hf : amongL (z :: rs) up = z :: amongL rs up := by unfold amongL; rw [List.filter_cons_of_pos hu]
      rw [hf] at h
      cases U with
      | nil =>
        have h2 : z :: amongL rs up = R := h
        refine ⟨(fun e => by rw [e] at h2; cases h2), fun y ys e => ?_⟩
        rw [e] at h2
        obtain ⟨rfl, -⟩ := List.cons.inj h2
        exact ⟨0, rfl, hu, by simp, fun j hj => by omega⟩
      | cons u us =>
        obtain ⟨rfl, h3⟩ := List.cons.inj h
        obtain ⟨i1, i2⟩ := find_next rs up us R hn2 h3
        refine ⟨fun e x hx hux => ?_, fun y ys e => ?_⟩
        · rcases List.mem_cons.1 hx with rfl | q
          · simp
          · have := i1 e x q hux; simp at this ⊢; exact Or.inr this
        · obtain ⟨k0, a1, a2, a3, a4⟩ := i2 y ys e
          refine ⟨k0 + 1, by simpa using a1, a2, ?_, fun j hj x hx hux => ?_⟩
          · have hne : y ≠ z := fun q => hz (q ▸ List.mem_of_getElem? a1)
            simp at a3 ⊢; exact ⟨hne, a3⟩
          · cases j with
            | zero => simp at hx; subst hx; simp
            | succ j =>
              have := a4 j (by omega) x (by simpa using hx) hux
              simp at this ⊢; exact Or.inr this
    · have hf : amongL (z :: rs) up = amongL rs up := by unfold amongL; rw [List.filter_cons_of_neg hu]
      rw [hf] at h
      obtain ⟨i1, i2⟩ := find_next rs up U R hn2 h
      refine ⟨fun e x hx hux => ?_, fun y ys e => ?_⟩
      · rcases List.mem_cons.1 hx with rfl | q
        · exact absurd hux hu
        · exact i1 e x q hux
      · obtain ⟨k0, a1, a2, a3, a4⟩ := i2 y ys e
        refine ⟨k0 + 1, by simpa using a1, a2, a3, fun j hj x hx hux => ?_⟩
        cases j with
        | zero => simp at hx; subst hx; exact absurd hux hu
        | succ j => exact a4 j (by omega) x (by simpa using hx) hux
theorem restL_nodup (o : List Int) (p n : Int) : (restL o p n).Nodup := (walkUp_nodup o (startOf p) 8).sublist (List.drop_sublist ..)
set_option maxRecDepth 100000 in
set_option maxHeartbeats 1500000 in
theorem rsloppy_any (B : Nat) (o : List Int) (ho : o.length = 8) (p n : Int) (u : Value) (up : List Int) (w : World) (hu : Ints B w u up) (hB : B ≤ w.heap.size) (hul : up.length ≤ 9223372036854775807) :
    Calls Tryd.prog 11 #[.agg (intV o).toArray, .int .i64 p, .int .i64 n, u] w fun e w' => ∃ v, e = .returned v ∧ w'.ownsRow w.heap.size 35 2 v (sloppyL o p n up).length (tgtV (sloppyL o p n up)) ∧ Below w.heap.size w w' := by
  obtain ⟨m, hm⟩ : ∃ m, w.heap.size = m := ⟨_, rfl⟩
  rw [hm] at hB ⊢
  obtain ⟨i43, f43, hz43, hs43, hb43⟩ := inf43
  have F43 : Hid (Tryd.prog.info? 35 = some i43) := f43
  obtain ⟨i3, f3, hz3, hs3, hb3⟩ := inf3
  have F3 : Hid (Tryd.prog.info? 3 = some i3) := f3
  have HPr : Hid (∀ W, Calls Tryd.prog 7 #[.agg (intV o).toArray, .int .i64 p, .int .i64 n] W fun e w' => ∃ v, e = .returned v ∧ Ints w'.heap.size w' v (primL o p n) ∧ Below W.heap.size W w') := fun W => rprimaries_any o ho p n W
  have HW : Hid (∀ W, Calls Tryd.prog 19 #[.agg (intV o).toArray, .int .i64 p] W fun e w' => ∃ v, e = .returned v ∧ w'.ownsRow W.heap.size 3 1 v (walkL o p).length (intV (walkL o p)) ∧ Below W.heap.size W w') := fun W => rwalk_any o ho p W
  have HU : Hid (∀ W x, Below m w W → Calls Tryd.prog 23 #[u, .int .i64 x] W fun e w' => e = .returned (.bool (up.contains x)) ∧ w' = W) := fun W x hW => in_any B u up x W (hu.below (hW.mono hB)) hul
  have HO : Hid (o.length = 8) := ho
  have hpl : (primL o p n).length ≤ 8 := by rw [primL_len]; have := cutN_le n (walkL o p); have := walkL_len o p; omega
  have hrl : (restL o p n).length ≤ 8 := by have := walkL_len o p; unfold restL; rw [List.length_drop]; omega
  have HF : Hid (sloppyL o p n up = ((primL o p n).foldl (stepS up) ([], amongL (restL o p n) up)).1) := by
    show sloppyL o p n up = _
    rw [stepS_slop]; rfl
  have HND : Hid ((restL o p n).Nodup) := restL_nodup o p n
  have HRS : Hid (∀ W a c, Ints W.heap.size W (.slice a (walkL o p).length c) (walkL o p) → ∃ a2 c2, (∀ W', (Instr.slice 24 (.slice a (walkL o p).length c) (some (.int .i64 ((primL o p n).length : Int))) none none).run Tryd.prog W' = .ok (.slice a2 (restL o p n).length c2) W') ∧ Ints W.heap.size W (.slice a2 (restL o p n).length c2) (restL o p n)) := fun W a c hI => by
    have hle := cutN_le n (walkL o p)
    have hpl2 := primL_len o p n
    obtain ⟨a', c', e, hcp, hc⟩ := hI
    obtain ⟨rfl, -, rfl⟩ := Value.slice.inj e
    refine ⟨_, _, fun W' => by rw [hpl2, run_slice_from W' a _ c (cutN n (walkL o p)) hle, restL, List.length_drop], ?_⟩
    refine ⟨_, _, rfl, by unfold restL; rw [List.length_drop]; omega, ?_⟩
    unfold restL
    rw [List.length_drop]
    rcases hc with h0 | ⟨g, of_, e1, h1, h2⟩
    · exact Or.inl (by omega)
    · by_cases hcm : c = cutN n (walkL o p)
      · exact Or.inl (by omega)
      · rw [if_neg hcm, e1]
        refine Or.inr ⟨g, of_ + cutN n (walkL o p), by rw [Option.map_some, Addr.add_mid], h1, fun j hj => ?_⟩
        rw [show of_ + cutN n (walkL o p) + j = of_ + (cutN n (walkL o p) + j) by omega, h2 _ (by omega)]
        simp [List.getD_eq_getElem?_getD, List.getElem?_drop]
  clear ho f43 f3 hu hul
  go_enter Tryd.func11, Tryd.ntmps11
  go_wp2_with (first
    | (refine wpList_box_new 4 rfl rfl 23 _ rfl m hm _ rfl ?_; intro w1 h1)
    | (go_at_call 7; refine (HPr.out w1).mono ?_; rintro e w2 ⟨v2, rfl, I2, b2⟩; have hz1 := h1.size; have H2 := h1.holds.below b2 (by omega); have b02 : Below m w w2 := h1.below.trans (b2.mono (by omega)); obtain ⟨a2, c2, rfl⟩ := I2.len; have hz2 : m + 1 ≤ w2.heap.size := (by have := b2.size; omega))
    | (refine wpList_load_all rfl 23 _ rfl _ rfl 23 (intV o) 8 3 H2 und23 (by rw [siz23, intV_len, HO.out]) ?_)
    | (refine wpList_load_all rfl 23 _ rfl _ rfl 23 (intV o) 8 3 h1.holds und23 (by rw [siz23, intV_len, HO.out]) ?_)
    | (go_at_call 19; refine (HW.out w2).mono ?_; rintro e w3 ⟨v3, rfl, O3, b3⟩; have I3 := ints_of_row O3; obtain ⟨a3, c3, rfl⟩ := row_slice O3; obtain ⟨a4, c4, hsl, I4⟩ := HRS.out w3 a3 c3 I3))
  have b03 : Below m w w3 := b02.trans (b3.mono (by omega))
  have hm3 : m ≤ w3.heap.size := by have := b3.size; omega
  have I2' : Ints w3.heap.size w3 (.slice a2 (primL o p n).length c2) (primL o p n) := (I2.below b3).mono b3.size
  obtain ⟨C, hC⟩ : ∃ C, w3.heap.size = C := ⟨_, rfl⟩
  rw [hC] at I4 I2' hm3
  have HB3 : Hid (Below m w w3) := b03
  have HC : Hid (w3.heap.size = C) := hC
  have HI2 : Hid (∀ W, Below C w3 W → Ints C W (.slice a2 (primL o p n).length c2) (primL o p n)) := fun W hW => I2'.below hW
  have HI4 : Hid (∀ W, Below C w3 W → Ints C W (.slice a4 (restL o p n).length c4) (restL o p n)) := fun W hW => I4.below hW
  clear hC I2' I4 I2 I3 O3 b2 b02 b3 b03 h1 H2 HW HPr HRS hm hB hsl hz1 hz2
  generalize primL o p n = F at HF HI2 hpl ⊢
  generalize hT : sloppyL o p n up = TT at HF
  have HT : Hid (sloppyL o p n up = TT) := hT
  generalize restL o p n = RS at HF HI4 hrl HND ⊢
  clear hT
  obtain ⟨fl, hfl⟩ : ∃ fl, F.length = fl := ⟨_, rfl⟩
  obtain ⟨rl, hrll⟩ : ∃ rl, RS.length = rl := ⟨_, rfl⟩
  have HFL : Hid (F.length = fl) := hfl
  have HRL : Hid (RS.length = rl) := hrll
  have HTL : Hid (∀ k, k ≤ fl → ((F.take k).foldl (stepS up) ([], amongL RS up)).1.length ≤ k) := fun k hk => by
    rw [stepS_slop, List.nil_append]
    have := slop_len_le up (F.take k) (amongL RS up)
    rw [List.length_take] at this; omega
  rw [hfl] at HI2 hpl ⊢
  rw [hrll] at HI4 hrl ⊢
  clear hfl hrll
  go_loopw [11, 12, 13] (fun t us c wr => ∃ k : Nat, k ≤ fl ∧ c = .int .i64 (k : Int) ∧ ∃ U : List Int, Hid (amongL RS up = U ++ ((F.take k).foldl (stepS up) ([], amongL RS up)).2) ∧ Hid (wr.ownsRow C 3 1 us U.length (intV U)) ∧ Hid (wr.ownsRow C 35 2 t ((F.take k).foldl (stepS up) ([], amongL RS up)).1.length (tgtV ((F.take k).foldl (stepS up) ([], amongL RS up)).1)) ∧ Hid (Apart us t) ∧ Hid (Below C w3 wr)) (fun _ _ c _ => fl - (intOf c).toNat)
  case atStart => exact ⟨0, by omega, rfl, [], rfl, World.ownsRow_nil _ _ _ _, World.ownsRow_nil _ _ _ _, (fun j h => by cases h), Below.refl _ _⟩
  case round =>
  obtain ⟨k, hk, rfl, U, hOT, hus, hown, hap, hBe⟩ := hrel
  by_cases hlt : k < fl
  · obtain ⟨x, hx⟩ : ∃ x, F[k]? = some x := ⟨_, List.getElem?_eq_getElem (by rw [HFL.out]; exact hlt)⟩
    obtain ⟨g, off, rfl, hcell⟩ := (HI2.out wr hBe.out).cell k x hx
    have hstep := foldl_take_succ (stepS up) ([], amongL RS up) F k x hx
    have hlen := HTL.out k hk
    generalize (F.take k).foldl (stepS up) ([], amongL RS up) = S at hOT hown hstep hlen
    obtain ⟨T, R⟩ := S
    replace hOT : Hid (amongL RS up = U ++ R) := hOT
    replace hown : Hid (wr.ownsRow C 35 2 u11 T.length (tgtV T)) := hown
    replace hlen : T.length ≤ k := hlen
    have hUl : U.length ≤ 8 := by
      have h1 := amongL_len RS up
      rw [hOT.out, List.length_append, HRL.out] at h1; omega
    obtain ⟨at_, ct, rfl⟩ := row_slice hown.out
    obtain ⟨au, cu, rfl⟩ := row_slice hus.out
    have i0 : (0 : Int) ≤ (k : Int) := by omega
    have i1 : (k : Int) < (fl : Int) := by omega
    have hC1 := HU.out wr x (HB3.out.trans (hBe.out.mono hm3))
    have hsz : C ≤ wr.heap.size := by have := hBe.out.size; have := HC.out; omega
    have HX : Hid (F[k]? = some x) := hx
    clear hx
    have hcd : ∀ W, Below C w3 W → W.cell? ⟨g, off + k, none⟩ = some (.int .i64 x) := fun W hW => by
      obtain ⟨g', o', e', h'⟩ := (HI2.out W hW).cell k x HX.out
      cases e'
      exact h'
    have HCD : Hid (∀ W, Below C w3 W → W.cell? ⟨g, off + k, none⟩ = some (.int .i64 x)) := hcd
    clear hcd
    by_cases hcx : up.contains x = true
    · have hst : Hid ((F.take (k + 1)).foldl (stepS up) ([], amongL RS up) = (T ++ [(x, x)], R)) := by
        show _ = _
        rw [hstep, stepS, if_pos hcx]
      rw [hcx] at hC1
      have hC2 : Hid (Calls Tryd.prog 23 #[u, .int .i64 x] wr fun e w' => e = .returned (.bool true) ∧ w' = wr) := hC1
      clear hC1 hstep hcx
      have c0 := HCD.out wr.drew hBe.out.drew
      have bA : Hid (Below C w3 (wr.drew.alloc (.cells #[.int .i64 x, .int .i64 x] 35))) := hBe.out.drew.trans ((Below.refl C wr.drew).alloc (by simpa using hsz) _)
      have c1 := HCD.out _ bA.out
      have HOWa : Hid ((wr.drew.alloc (.cells #[.int .i64 x, .int .i64 x] 35)).ownsRow C 35 2 (.slice at_ T.length ct) T.length (tgtV T)) := (show wr.drew.ownsRow C 35 2 (.slice at_ T.length ct) T.length (tgtV T) from hown.out).alloc _
      have HNC : Hid (∀ (j : Nat) (u : Value), [Value.int .i64 x, .int .i64 x][j]? = some u → (wr.drew.alloc (.cells #[.int .i64 x, .int .i64 x] 35)).cell? (Addr.add ⟨wr.heap.size, 0, none⟩ j) = some u) := fun j u hu => World.news_of_block (heap_alloc_new wr.drew _) j u hu
      have hbs : C ≤ (wr.drew.alloc (.cells #[.int .i64 x, .int .i64 x] 35)).heap.size := by simp; omega
      have mk : Hid (∀ g4 cap4 (w4 : World), (wr.drew.alloc (.cells #[.int .i64 x, .int .i64 x] 35)).grownBy w4 (Value.slice at_ T.length ct).ownBlock → Below C w3 w4 ∧ w4.ownsRow C 3 1 (.slice au U.length cu) U.length (intV U) ∧ (((Value.slice at_ T.length ct).ownBlock = some g4 ∨ g4 = wr.heap.size + 1) → Apart (.slice au U.length cu) (.slice (some ⟨g4, 0, none⟩) (T.length + 1) cap4))) := fun g4 cap4 w4 hg => by
        refine ⟨bA.out.grown hg hbs (fun j e => own3_base hown.out j e), row_grown ((show wr.drew.ownsRow C 3 1 (.slice au U.length cu) U.length (intV U) from hus.out).alloc _) hg (fun j e => hap.out j e), fun hl j e q => ?_⟩
        have q1 : g4 = j := Option.some.inj q
        subst q1
        rcases hl with r | r
        · exact hap.out g4 e r
        · have := (hus.out.lt g4 e).2; omega
      go_wp2_with (go_at_call 23; refine hC2.out.mono ?_; rintro e w5 ⟨rfl, e5⟩; rw [e5]; clear e5 w5)
      go_region_held3 (fun w' => w'.cell? ⟨g, off + k, none⟩ = some (.int .i64 x)) (go_keep) (first | (refine step_append_lies _ rfl _ _ 31 rfl C 35 i43 (.agg #[.int .i64 0, .int .i64 0]) 2 16 und38 F43.out hz43 hs43 hb43 rfl (by decide) (.slice at_ T.length ct) T.length (tgtV T) rfl HOWa.out ⟨wr.heap.size, 0, none⟩ 1 1 [.int .i64 x, .int .i64 x] rfl rfl HNC.out (by simp [Value.oneCell']) (by decide) (by unfold maxLen; omega) (by omega) hbs (wr.heap.size + 1) (by simp) ?_; intro g4 cap4 w4 own4 grow4 loc4 lt4; obtain ⟨b4, u4', ap4⟩ := mk.out g4 cap4 w4 grow4; have c4 := HCD.out w4 b4; have ap5 := ap4 loc4; clear grow4 loc4 lt4 ap4))
      have own5 : w4.ownsRow C 35 2 (.slice (some ⟨g4, 0, none⟩) (T.length + 1) cap4) (T ++ [(x, x)]).length (tgtV (T ++ [(x, x)])) := by
        rw [tgtV_append, List.length_append]; exact own4
      clear own4
      go_wp2
      exact ⟨⟨k + 1, by omega, by go_num, U, by rw [hst.out]; exact hOT, u4', by rw [hst.out]; exact own5, ap5, b4⟩, by simp [intOf]; omega⟩
    · have hcf : up.contains x = false := by simpa using hcx
      rw [hcf] at hC1
      have hC2 : Hid (Calls Tryd.prog 23 #[u, .int .i64 x] wr fun e w' => e = .returned (.bool false) ∧ w' = wr) := hC1
      obtain ⟨fn1, fn2⟩ := find_next RS up U R HND.out hOT.out
      cases R with
      | nil =>
        have hst : Hid ((F.take (k + 1)).foldl (stepS up) ([], amongL RS up) = (T, [])) := by
          show _ = _
          rw [hstep, stepS, if_neg hcx]
        have hno : Hid (∀ j, j < rl → ∀ z, RS[j]? = some z → up.contains z = true → U.contains z = true) := fun j _ z hz h => fn1 rfl z (List.mem_of_getElem? hz) h
        clear hC1 hstep hcx hcf fn1 fn2 HCD
        go_wp2_with (go_at_call 23; refine hC2.out.mono ?_; rintro e w5 ⟨rfl, e5⟩; rw [e5]; clear e5 w5)
        clear hcell
        obtain ⟨W0, hW0⟩ : ∃ W0, W0 = wr := ⟨_, rfl⟩
        subst hW0
        go_loopw [11, 12, 15] (fun tq uq c wq => ∃ j : Nat, j ≤ rl ∧ c = .int .i64 (j : Int) ∧ tq = .slice at_ T.length ct ∧ uq = .slice au U.length cu ∧ wq = W0) (fun _ _ c _ => rl - (intOf c).toNat)
        case atStart => exact ⟨0, by omega, rfl, rfl, rfl, rfl⟩
        case round =>
          obtain ⟨j, hj, rfl, rfl, rfl, rfl⟩ := hrel
          by_cases hjl : j < rl
          · obtain ⟨z, hz⟩ : ∃ z, RS[j]? = some z := ⟨_, List.getElem?_eq_getElem (by rw [HRL.out]; exact hjl)⟩
            obtain ⟨gR, oR, rfl, hzcell⟩ := (HI4.out wr hBe.out).cell j z hz
            have hzc := hno.out j (by omega) z hz
            have hRdy := HU.out wr z (HB3.out.trans (hBe.out.mono hm3))
            have hTkn := in_any _ _ U z wr (ints_of_row hus.out) (by omega)
            have q0 : (0 : Int) ≤ (j : Int) := by omega
            have q1 : (j : Int) < (rl : Int) := by omega
            clear hz
            cases hcz : up.contains z with
            | false =>
              rw [hcz] at hRdy
              have hR1 : Hid (Calls Tryd.prog 23 #[u, .int .i64 z] wr fun e w' => e = .returned (.bool false) ∧ w' = wr) := hRdy
              generalize U.contains z = tz at hTkn
              have hT1 : Hid (Calls Tryd.prog 23 #[.slice au U.length cu, .int .i64 z] wr fun e w' => e = .returned (.bool tz) ∧ w' = wr) := hTkn
              clear hRdy hTkn hzc hcz
              go_wp2_with (first
                | (go_at_call 23; refine hR1.out.mono ?_; rintro e w5 ⟨rfl, e5⟩; rw [e5]; clear e5 w5 hR1)
                | (go_at_call 23; refine hT1.out.mono ?_; rintro e w5 ⟨rfl, e5⟩; rw [e5]; clear e5 w5))
              exact ⟨⟨j + 1, by omega, by go_num, by simp, by simp, by simp⟩, by simp [intOf]; omega⟩
            | true =>
              rw [hcz] at hRdy
              rw [hzc hcz] at hTkn
              have hR1 : Hid (Calls Tryd.prog 23 #[u, .int .i64 z] wr fun e w' => e = .returned (.bool true) ∧ w' = wr) := hRdy
              have hT1 : Hid (Calls Tryd.prog 23 #[.slice au U.length cu, .int .i64 z] wr fun e w' => e = .returned (.bool true) ∧ w' = wr) := hTkn
              clear hRdy hTkn hzc hcz
              go_wp2_with (first
                | (go_at_call 23; refine hR1.out.mono ?_; rintro e w5 ⟨rfl, e5⟩; rw [e5]; clear e5 w5 hR1)
                | (go_at_call 23; refine hT1.out.mono ?_; rintro e w5 ⟨rfl, e5⟩; rw [e5]; clear e5 w5))
              exact ⟨⟨j + 1, by omega, by go_num, by simp, by simp, by simp⟩, by simp [intOf]; omega⟩
          · have q1 : ¬ (j : Int) < (rl : Int) := by omega
            go_wp2
            exact ⟨⟨k + 1, by omega, by go_num, U, by rw [hst.out]; exact hOT, hus, by rw [hst.out]; exact hown, hap, hBe⟩, by simp [intOf]; omega⟩
      | cons y ys =>
        have hst : Hid ((F.take (k + 1)).foldl (stepS up) ([], amongL RS up) = (T ++ [(y, x)], ys)) := by
          show _ = _
          rw [hstep, stepS, if_neg hcx]
        obtain ⟨k0, hk0, hy1, hy2, hy3⟩ := fn2 y ys rfl
        have hno : Hid (∀ j, j < k0 → ∀ z, RS[j]? = some z → up.contains z = true → U.contains z = true) := hy3
        have hk0l : k0 < rl := by rw [← HRL.out]; exact (List.getElem?_eq_some_iff.1 hk0).1
        have HK0 : Hid (RS[k0]? = some y) := hk0
        have HY1 : Hid (up.contains y = true) := hy1
        have HY2 : Hid (U.contains y = false) := hy2
        have hOT2 : Hid (amongL RS up = (U ++ [y]) ++ ys) := by
          show _ = _
          rw [hOT.out]; simp
        clear hC1 hstep hcx hcf fn1 fn2 hk0 hy1 hy2 hy3
        go_wp2_with (go_at_call 23; refine hC2.out.mono ?_; rintro e w5 ⟨rfl, e5⟩; rw [e5]; clear e5 w5)
        clear hcell
        obtain ⟨W0, hW0⟩ : ∃ W0, W0 = wr := ⟨_, rfl⟩
        subst hW0
        go_loopw [11, 12, 15] (fun tq uq c wq => ∃ j : Nat, j ≤ k0 ∧ c = .int .i64 (j : Int) ∧ tq = .slice at_ T.length ct ∧ uq = .slice au U.length cu ∧ wq = W0) (fun _ _ c _ => k0 - (intOf c).toNat)
        case atStart => exact ⟨0, by omega, rfl, rfl, rfl, rfl⟩
        case round =>
          obtain ⟨j, hj, rfl, rfl, rfl, rfl⟩ := hrel
          by_cases hjl : j < k0
          · obtain ⟨z, hz⟩ : ∃ z, RS[j]? = some z := ⟨_, List.getElem?_eq_getElem (by rw [HRL.out]; omega)⟩
            obtain ⟨gR, oR, rfl, hzcell⟩ := (HI4.out wr hBe.out).cell j z hz
            have hzc := hno.out j (by omega) z hz
            have hRdy := HU.out wr z (HB3.out.trans (hBe.out.mono hm3))
            have hTkn := in_any _ _ U z wr (ints_of_row hus.out) (by omega)
            have q0 : (0 : Int) ≤ (j : Int) := by omega
            have q1 : (j : Int) < (rl : Int) := by omega
            clear hz
            cases hcz : up.contains z with
            | false =>
              rw [hcz] at hRdy
              have hR1 : Hid (Calls Tryd.prog 23 #[u, .int .i64 z] wr fun e w' => e = .returned (.bool false) ∧ w' = wr) := hRdy
              generalize U.contains z = tz at hTkn
              have hT1 : Hid (Calls Tryd.prog 23 #[.slice au U.length cu, .int .i64 z] wr fun e w' => e = .returned (.bool tz) ∧ w' = wr) := hTkn
              clear hRdy hTkn hzc hcz
              go_wp2_with (first
                | (go_at_call 23; refine hR1.out.mono ?_; rintro e w5 ⟨rfl, e5⟩; rw [e5]; clear e5 w5 hR1)
                | (go_at_call 23; refine hT1.out.mono ?_; rintro e w5 ⟨rfl, e5⟩; rw [e5]; clear e5 w5))
              exact ⟨⟨j + 1, by omega, by go_num, by simp, by simp, by simp⟩, by simp [intOf]; omega⟩
            | true =>
              rw [hcz] at hRdy
              rw [hzc hcz] at hTkn
              have hR1 : Hid (Calls Tryd.prog 23 #[u, .int .i64 z] wr fun e w' => e = .returned (.bool true) ∧ w' = wr) := hRdy
              have hT1 : Hid (Calls Tryd.prog 23 #[.slice au U.length cu, .int .i64 z] wr fun e w' => e = .returned (.bool true) ∧ w' = wr) := hTkn
              clear hRdy hTkn hzc hcz
              go_wp2_with (first
                | (go_at_call 23; refine hR1.out.mono ?_; rintro e w5 ⟨rfl, e5⟩; rw [e5]; clear e5 w5 hR1)
                | (go_at_call 23; refine hT1.out.mono ?_; rintro e w5 ⟨rfl, e5⟩; rw [e5]; clear e5 w5))
              exact ⟨⟨j + 1, by omega, by go_num, by simp, by simp, by simp⟩, by simp [intOf]; omega⟩
          · have ej : j = k0 := by omega
            subst ej
            obtain ⟨gR, oR, rfl, hzcell⟩ := (HI4.out wr hBe.out).cell j y HK0.out
            have hRdy := HU.out wr y (HB3.out.trans (hBe.out.mono hm3))
            have hTkn := in_any _ _ U y wr (ints_of_row hus.out) (by omega)
            rw [HY1.out] at hRdy
            rw [HY2.out] at hTkn
            have hR1 : Hid (Calls Tryd.prog 23 #[u, .int .i64 y] wr fun e w' => e = .returned (.bool true) ∧ w' = wr) := hRdy
            have hT1 : Hid (Calls Tryd.prog 23 #[.slice au U.length cu, .int .i64 y] wr fun e w' => e = .returned (.bool false) ∧ w' = wr) := hTkn
            have HYD : Hid (∀ W, Below C w3 W → W.cell? ⟨gR, oR + j, none⟩ = some (.int .i64 y)) := fun W hW => by
              obtain ⟨g', o', e', h'⟩ := (HI4.out W hW).cell j y HK0.out
              cases e'
              exact h'
            have q0 : (0 : Int) ≤ (j : Int) := by omega
            have q1 : (j : Int) < (rl : Int) := by omega
            have HNC : Hid (∀ (i : Nat) (u : Value), [Value.int .i64 y][i]? = some u → (wr.alloc (.cells #[.int .i64 y] 3)).cell? (Addr.add ⟨wr.heap.size, 0, none⟩ i) = some u) := fun i u hu => World.news_of_block (heap_alloc_new wr _) i u hu
            clear hRdy hTkn hjl
            go_wp2_with (first
              | (go_at_call 23; refine hR1.out.mono ?_; rintro e w5 ⟨rfl, e5⟩; rw [e5]; clear e5 w5 hR1)
              | (go_at_call 23; refine hT1.out.mono ?_; rintro e w5 ⟨rfl, e5⟩; rw [e5]; clear e5 w5)
              | (at_builtin; refine wpList_append_src rfl (.tmp 76) (.tmp 81) 24 rfl C 3 i3 _ 1 8 und24 F3.out hz3 hs3 hb3 (by rfl) (by omega) _ _ _ (hus.out.alloc _) rfl [.int .i64 y] _ 1 1 rfl (by rfl) (fun _ => ⟨_, rfl, fun i u hu => HNC.out i u hu⟩) (fun u hu => by simp at hu; subst hu; rfl) (by unfold maxLen; omega) (by omega) (by simp; omega) ?_; intro vu wu ownu gru hatu))
            have bU : Hid (Below C w3 wu) := (hBe.out.trans ((Below.refl _ _).alloc hsz _)).grown gru (by simp; omega) (fun i e => own3_base hus.out i e)
            have hszu : C ≤ wu.heap.size := Nat.le_trans (by have := HC.out; omega) bU.out.size
            have ownT : Hid (wu.ownsRow C 35 2 (.slice at_ T.length ct) T.length (tgtV T)) := row_grown (hown.out.alloc _) gru (fun i e => hap.out.symm i e)
            have ownU : Hid (wu.ownsRow C 3 1 vu (U ++ [y]).length (intV (U ++ [y]))) := by
              show wu.ownsRow C 3 1 vu (U ++ [y]).length (intV (U ++ [y]))
              rw [intV_append, List.length_append]; exact ownu
            have apU : Hid (Apart vu (.slice at_ T.length ct)) := fun i e q => by
              rcases hatu with r | r
              · exact hap.out i (r ▸ e) q
              · rw [r] at e
                have h1 := (hown.out.lt i q).2
                have h2 : (wr.alloc (.cells #[.int .i64 y] 3)).heap.size = i := Option.some.inj e
                simp at h2; omega
            clear gru hatu ownu hzcell
            have c0 := HCD.out wu.drew bU.out.drew
            have d0 := HYD.out wu.drew bU.out.drew
            have bA : Hid (Below C w3 (wu.drew.alloc (.cells #[.int .i64 y, .int .i64 x] 35))) := bU.out.drew.trans ((Below.refl C wu.drew).alloc (by simpa using hszu) _)
            have c1 := HCD.out _ bA.out
            have d1 := HYD.out _ bA.out
            have c1' : (wu.alloc (.cells #[.int .i64 y, .int .i64 x] 35)).drew.cell? ⟨g, off + k, none⟩ = some (.int .i64 x) := c1
            have d1' : (wu.alloc (.cells #[.int .i64 y, .int .i64 x] 35)).drew.cell? ⟨gR, oR + j, none⟩ = some (.int .i64 y) := d1
            have HOWa : Hid ((wu.drew.alloc (.cells #[.int .i64 y, .int .i64 x] 35)).ownsRow C 35 2 (.slice at_ T.length ct) T.length (tgtV T)) := (show wu.drew.ownsRow C 35 2 (.slice at_ T.length ct) T.length (tgtV T) from ownT.out).alloc _
            have HNC2 : Hid (∀ (j : Nat) (u : Value), [Value.int .i64 y, .int .i64 x][j]? = some u → (wu.drew.alloc (.cells #[.int .i64 y, .int .i64 x] 35)).cell? (Addr.add ⟨wu.heap.size, 0, none⟩ j) = some u) := fun j u hu => World.news_of_block (heap_alloc_new wu.drew _) j u hu
            have hbs : C ≤ (wu.drew.alloc (.cells #[.int .i64 y, .int .i64 x] 35)).heap.size := by simp; omega
            have mk : Hid (∀ g4 cap4 (w4 : World), (wu.drew.alloc (.cells #[.int .i64 y, .int .i64 x] 35)).grownBy w4 (Value.slice at_ T.length ct).ownBlock → Below C w3 w4 ∧ w4.ownsRow C 3 1 vu (U ++ [y]).length (intV (U ++ [y])) ∧ (((Value.slice at_ T.length ct).ownBlock = some g4 ∨ g4 = wu.heap.size + 1) → Apart vu (.slice (some ⟨g4, 0, none⟩) (T.length + 1) cap4))) := fun g4 cap4 w4 hg => by
              refine ⟨bA.out.grown hg hbs (fun i e => own3_base ownT.out i e), row_grown ((show wu.drew.ownsRow C 3 1 vu (U ++ [y]).length (intV (U ++ [y])) from ownU.out).alloc _) hg (fun i e => apU.out i e), fun hl i e q => ?_⟩
              have q1 : g4 = i := Option.some.inj q
              subst q1
              rcases hl with r | r
              · exact apU.out g4 e r
              · have := (ownU.out.lt g4 e).2; omega
            go_region_held3 (fun w' => w'.cell? ⟨gR, oR + j, none⟩ = some (.int .i64 y) ∧ w'.cell? ⟨g, off + k, none⟩ = some (.int .i64 x)) (go_keep) (first | (refine step_append_lies _ rfl _ _ 31 rfl C 35 i43 (.agg #[.int .i64 0, .int .i64 0]) 2 16 und38 F43.out hz43 hs43 hb43 rfl (by decide) (.slice at_ T.length ct) T.length (tgtV T) rfl HOWa.out ⟨wu.heap.size, 0, none⟩ 1 1 [.int .i64 y, .int .i64 x] rfl rfl HNC2.out (by simp [Value.oneCell']) (by decide) (by unfold maxLen; omega) (by omega) hbs (wu.heap.size + 1) (by simp) ?_; intro g4 cap4 w4 own4 grow4 loc4 lt4; obtain ⟨b4, u4', ap4⟩ := mk.out g4 cap4 w4 grow4; have c4 := HCD.out w4 b4; have d4 := HYD.out w4 b4; have ap5 := ap4 loc4; clear grow4 loc4 lt4 ap4))
            have own5 : w4.ownsRow C 35 2 (.slice (some ⟨g4, 0, none⟩) (T.length + 1) cap4) (T ++ [(y, x)]).length (tgtV (T ++ [(y, x)])) := by
              rw [tgtV_append, List.length_append]; exact own4
            clear own4
            go_wp2
            exact ⟨⟨k + 1, by omega, by go_num, U ++ [y], by rw [hst.out]; exact hOT2, u4', by rw [hst.out]; exact own5, ap5, b4⟩, by simp [intOf]; omega⟩
  · have e8 : F.take k = F := List.take_of_length_le (by rw [HFL.out]; omega)
    rw [e8, ← HF.out] at hown
    have i1 : ¬ (k : Int) < (fl : Int) := by omega
    obtain ⟨at_, ct, rfl⟩ := row_slice hown.out
    clear hOT hus hap
    go_wp2
    go_ret
    rw [HT.out]
    exact ⟨_, rfl, row_base hown.out hm3, HB3.out.trans (hBe.out.mono hm3)⟩
end Go.Proofs.YtlliijodilnlgaaDoor
