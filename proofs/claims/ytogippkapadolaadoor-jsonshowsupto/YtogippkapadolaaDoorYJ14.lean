/- JsLaidB, JsRightB, JsSame, JsSameB, App, JsClone, JsCopy, JsLe. -/
import Derived.Deep.AppendLies
import Derived.Deep.Upon
import Derived.Deep.AppendSrc
import Derived.Maps.AppendAt
import Derived.OwnWalk
import Derived.Test.YtogippkapadolaaDoorYJ13
import Derived.Test.YtogippkapadolaaDoorYJ12
import Derived.Test.YtogippkapadolaaDoorYJ1
import Derived.Test.YtogippkapadolaaDoorYJ7
/- laid, at every value; Show's text. -/
namespace Go.Proofs.YtogippkapadolaaDoor
open Go.RowKit

/-- Numbers that an int64 holds; objects with a name for each element. -/
inductive Fit : J → Prop where
  | mk {k : Int} {b : Bool} {n : Int} {s : List UInt8} {l : List J} {names : List (List UInt8)} (hk : k = 5 → names.length = l.length) (h0 : -9223372036854775808 ≤ n) (h1 : n ≤ 9223372036854775807) (hl : l.length ≤ 140737488355327) (hx : ∀ x ∈ l, Fit x) : Fit (.mk k b n s l names)
set_option maxHeartbeats 4000000 in
set_option maxRecDepth 100000 in
theorem laid_ok {B : Nat} {w0 : World} {S : Nat → Prop} (hS : ∀ i, S i → i < B) : ∀ {j : J} {v : Value}, JAt w0 S j v → Fit j → LaidP B w0 j v := by
  intro j v hJ
  induction hJ with
  | mk k b n s l names la na lc nc es hes h6 hl hlies hnames ih =>
    intro hF w u o hw0 hB hO htab hlim
    obtain ⟨hnl, hn0, hn1, hll, hfx⟩ := hF
    have hc1 : ∀ c ∈ es, ∀ x ∈ c, x.oneCell' = true := by
      intro c hc x hx
      obtain ⟨i, hi⟩ := List.mem_iff_getElem?.1 hc
      have hil : i < l.length := by rw [← hes]; exact (List.getElem?_eq_some_iff.1 hi).1
      obtain ⟨d, hd, _, h1⟩ := jat_cells (hl i l[i] c (List.getElem?_eq_getElem hil) hi)
      have : c.toArray = d.toArray := by cases hd; rfl
      have : c = d := by simpa using this
      subst this
      exact h1 x hx
    have hparts := laidParts_any (k := k) (b := b) (n0 := n) (s := s) (lc := lc) (nc := nc) hS hes h6 hc1 hlies hnames hnl (fun i x c h1 h2 => ih i x c h1 h2 (hfx x (List.mem_of_getElem? h1))) hll
    obtain ⟨N, hN⟩ : ∃ N, w.heap.size = N := ⟨_, rfl⟩
    obtain ⟨W, hW⟩ : ∃ W, w.alloc (.cells (jsonV k b n s la na l.length lc names.length nc).toArray 27) = W := ⟨_, rfl⟩
    have hx0 : Holds W N (jsonV k b n s la na l.length lc names.length nc) 27 := by
      have := heap_alloc_new w (.cells (jsonV k b n s la na l.length lc names.length nc).toArray 27)
      rw [hN, hW] at this; exact this
    have hA0 : Ap B w u W u := hW ▸ Ap.new u hB _
    have hO1 : Out B W u o := hW ▸ hO.gr (Gr.alloc _ _)
    have hB1 : B ≤ W.heap.size := Nat.le_trans hB hA0.size
    have ht1 : Tab B W := htab.of hA0.below
    have hw1 : Below B w0 W := hw0.trans hA0.below
    clear ih hl hlies hnames hO htab hfx h6 hc1
    unfold showJ at hlim ⊢
    by_cases k1 : k = 1
    · rw [if_pos k1] at hlim ⊢
      have hc := appBool_any (b := b) hO1 hB1 (by omega)
      have gk : (k == 1) = true := by simp [k1]
      generalize (if b = true then ([116, 114, 117, 101] : List UInt8) else [102, 97, 108, 115, 101]) = X at hc ⊢
      clear hparts k1
      subst hN hW
      show Calls Tryd.prog 25 #[u, .agg #[.int .i64 k, .bool b, .int .i64 n, .string (strL s), .slice la l.length lc, .slice na names.length nc]] w _
      go_enter Tryd.func25, Tryd.ntmps25
      go_wp2_with (go_at_call 40; refine hc.mono ?_; rintro e z ⟨v, rfl, h1, h2⟩)
      go_ret
      exact ⟨_, rfl, h1, hA0.trans h2⟩
    have g1 : (k == 1) = false := by simp [k1]
    rw [if_neg k1] at hlim ⊢
    by_cases k2 : k = 2
    · rw [if_pos k2] at hlim ⊢
      have hc := appInt_any (i := n) hn0 hn1 hO1 hB1 (by omega) ht1
      have gk : (k == 2) = true := by simp [k2]
      generalize Lib.itoa n = X at hc ⊢
      clear hparts k1 k2
      subst hN hW
      show Calls Tryd.prog 25 #[u, .agg #[.int .i64 k, .bool b, .int .i64 n, .string (strL s), .slice la l.length lc, .slice na names.length nc]] w _
      go_enter Tryd.func25, Tryd.ntmps25
      go_wp2_with (go_at_call 41; refine hc.mono ?_; rintro e z ⟨v, rfl, h1, h2⟩)
      go_ret
      exact ⟨_, rfl, h1, hA0.trans h2⟩
    have g2 : (k == 2) = false := by simp [k2]
    rw [if_neg k2] at hlim ⊢
    by_cases k3 : k = 3
    · rw [if_pos k3] at hlim ⊢
      have hc := laidText_any (s := s) hO1 hB1 (by omega)
      have gk : (k == 3) = true := by simp [k3]
      generalize textJ s = X at hc ⊢
      clear hparts k1 k2 k3
      subst hN hW
      show Calls Tryd.prog 25 #[u, .agg #[.int .i64 k, .bool b, .int .i64 n, .string (strL s), .slice la l.length lc, .slice na names.length nc]] w _
      go_enter Tryd.func25, Tryd.ntmps25
      go_wp2_with (go_at_call 42; refine hc.mono ?_; rintro e z ⟨v, rfl, h1, h2⟩)
      go_ret
      exact ⟨_, rfl, h1, hA0.trans h2⟩
    have g3 : (k == 3) = false := by simp [k3]
    rw [if_neg k3] at hlim ⊢
    by_cases k4 : k = 4
    · rw [if_pos k4] at hlim ⊢
      rw [show decide (k = 5) = false by simp [k4]] at hparts
      simp only [List.length_append, List.length_cons, List.length_nil] at hlim
      have hp : ∀ y v, Below B W y → B ≤ y.heap.size → Out B y v (o ++ [91]) → Calls Tryd.prog 43 #[v, .agg (jsonV k b n s la na l.length lc names.length nc).toArray] y fun e z => ∃ v', e = .returned v' ∧ Out B z v' (o ++ [91] ++ partsJ false 0 l names) ∧ Ap B y v z v' := fun y v h1 h2 h3 => hparts y v _ (hw1.trans h1) h2 h3 (ht1.of h1) (by simp only [List.length_append, List.length_cons, List.length_nil]; omega)
      have gk : (k == 4) = true := by simp [k4]
      have hlimX : o.length + (partsJ false 0 l names).length + 10 ≤ 140737488355327 := by omega
      have eX : o ++ (91 :: partsJ false 0 l names ++ [93]) = o ++ [91] ++ partsJ false 0 l names ++ [93] := by simp
      rw [eX]
      clear hparts k1 k2 k3 k4 hlim eX
      generalize partsJ false 0 l names = X at *
      subst hN hW
      show Calls Tryd.prog 25 #[u, .agg #[.int .i64 k, .bool b, .int .i64 n, .string (strL s), .slice la l.length lc, .slice na names.length nc]] w _
      go_enter Tryd.func25, Tryd.ntmps25
      go_wp2_with fail
      refine r25_9 rfl hO1 hB1 hx0 rfl hlimX rfl rfl hp fun ac wz u' hd e4 hO hA => ?_
      rename_i hK
      refine hK _ _ (wp_ret ?_)
      show bodyPost Tryd.prog Tryd.f25 (fun e w' => ∃ u', e = .returned u' ∧ Out B w' u' (o ++ [91] ++ X ++ [93]) ∧ Ap B w u w' u') .ret ac wz
      exact bodyPost_ret (results_tmp (t := 4) (by kernel_rfl) _ _ _) hd ⟨_, by rw [show ac.tmps.getD 4 undef = u' from e4], hO, hA0.trans hA⟩
    have g4 : (k == 4) = false := by simp [k4]
    rw [if_neg k4] at hlim ⊢
    by_cases k5 : k = 5
    · rw [if_pos k5] at hlim ⊢
      rw [show decide (k = 5) = true by simp [k5]] at hparts
      simp only [List.length_append, List.length_cons, List.length_nil] at hlim
      have hp : ∀ y v, Below B W y → B ≤ y.heap.size → Out B y v (o ++ [123]) → Calls Tryd.prog 43 #[v, .agg (jsonV k b n s la na l.length lc names.length nc).toArray] y fun e z => ∃ v', e = .returned v' ∧ Out B z v' (o ++ [123] ++ partsJ true 0 l names) ∧ Ap B y v z v' := fun y v h1 h2 h3 => hparts y v _ (hw1.trans h1) h2 h3 (ht1.of h1) (by simp only [List.length_append, List.length_cons, List.length_nil]; omega)
      have gk : (k == 5) = true := by simp [k5]
      have hlimX : o.length + (partsJ true 0 l names).length + 10 ≤ 140737488355327 := by omega
      have eX : o ++ (123 :: partsJ true 0 l names ++ [125]) = o ++ [123] ++ partsJ true 0 l names ++ [125] := by simp
      rw [eX]
      clear hparts k1 k2 k3 k4 k5 hnl hlim eX
      generalize partsJ true 0 l names = X at *
      subst hN hW
      show Calls Tryd.prog 25 #[u, .agg #[.int .i64 k, .bool b, .int .i64 n, .string (strL s), .slice la l.length lc, .slice na names.length nc]] w _
      go_enter Tryd.func25, Tryd.ntmps25
      go_wp2_with fail
      refine r25_11 rfl hO1 hB1 hx0 rfl hlimX rfl rfl hp fun ac wz u' hd e4 hO hA => ?_
      rename_i hK
      refine hK _ _ (wp_ret ?_)
      show bodyPost Tryd.prog Tryd.f25 (fun e w' => ∃ u', e = .returned u' ∧ Out B w' u' (o ++ [123] ++ X ++ [125]) ∧ Ap B w u w' u') .ret ac wz
      exact bodyPost_ret (results_tmp (t := 4) (by kernel_rfl) _ _ _) hd ⟨_, by rw [show ac.tmps.getD 4 undef = u' from e4], hO, hA0.trans hA⟩
    have g5 : (k == 5) = false := by simp [k5]
    rw [if_neg k5] at hlim ⊢
    have hln : o.length + [(110 : UInt8), 117, 108, 108].length ≤ 140737488355327 := by simp at hlim ⊢; omega
    clear hparts k1 k2 k3 k4 k5 hnl hlim
    subst hN hW
    show Calls Tryd.prog 25 #[u, .agg #[.int .i64 k, .bool b, .int .i64 n, .string (strL s), .slice la l.length lc, .slice na names.length nc]] w _
    go_enter Tryd.func25, Tryd.ntmps25
    go_wp2_with (at_builtin; refine wpl_app55s rfl (.tmp 43) (.const _) rfl B u o [110, 117, 108, 108] hO1 rfl rfl (by decide) hln hB1 ?_; intro u' w' h1 h2)
    go_ret
    exact ⟨_, rfl, h1, hA0.trans h2⟩
end Go.Proofs.YtogippkapadolaaDoor

/- Whether a value is right, at every value. -/
namespace Go.Proofs.YtogippkapadolaaDoor
open Go.RowKit

theorem isRight_all {k : Int} {b : Bool} {n : Int} {s : List UInt8} {la na : Option Addr} {ll lc nl nc : Nat} {m : Nat} {w : World} {X Y : Bool} (hm : m ≤ 1000)
    (hgood : badB k b n s ll nl m = false → (∀ y, Gr w y → Calls Tryd.prog 46 #[.slice na nl nc] y fun e z => e = .returned (.bool X) ∧ Gr y z) ∧ (∀ y, Gr w y → Calls Tryd.prog 47 #[.slice la ll lc, .int .i64 ((m : Int) + 1)] y fun e z => e = .returned (.bool Y) ∧ Gr y z)) :
    Calls Tryd.prog 28 #[.agg #[.int .i64 k, .bool b, .int .i64 n, .string (strL s), .slice la ll lc, .slice na nl nc], .int .i64 (m : Int)] w fun e w' => e = .returned (.bool (!badB k b n s ll nl m && X && Y)) ∧ Gr w w' := by
  by_cases h : k < 0
  · exact isRight_lo h
  by_cases h2 : k > 5
  · exact isRight_hi h2
  have hk : k = 0 ∨ k = 1 ∨ k = 2 ∨ k = 3 ∨ k = 4 ∨ k = 5 := by omega
  rcases hk with rfl | rfl | rfl | rfl | rfl | rfl
  · exact isRight_0 hm hgood
  · exact isRight_1 hm hgood
  · exact isRight_2 hm hgood
  · exact isRight_3 hm hgood
  · exact isRight_4 hm hgood
  · exact isRight_5 hm hgood
theorem bad_deep {k : Int} {b : Bool} {n : Int} {s : List UInt8} {ll nl m : Nat} (h : badB k b n s ll nl m = false) : m < 16 ∨ ll = 0 := by
  unfold badB at h
  simp only [Bool.or_eq_false_iff, Bool.and_eq_false_iff, decide_eq_false_iff_not, Bool.not_eq_false', Bool.or_eq_true, decide_eq_true_eq] at h
  obtain ⟨⟨⟨⟨_, h6⟩, _⟩, _⟩, h9⟩ := h
  rcases h6 with q | q
  · exact .inr (by omega)
  · rcases h9 with r | r
    · exfalso
      rcases q with q | q
      · exact r.1 q
      · exact r.2 q
    · exact .inl (by omega)
mutual
/-- Right, within so many lists and objects. -/
def rightP (within : Nat) : J → Bool
  | .mk k b n s l names => !badB k b n s l.length names.length within && decide names.Nodup && rightsP (within + 1) l
def rightsP (within : Nat) : List J → Bool
  | [] => true
  | x :: r => rightP within x && rightsP within r
end
/-- Texts and rows that a slice can have. -/
inductive Fits : J → Prop where
  | mk {k : Int} {b : Bool} {n : Int} {s : List UInt8} {l : List J} {names : List (List UInt8)} (hl : l.length < maxLen) (hn : names.length < maxLen) (hs : ∀ x ∈ names, x.length ≤ maxLen) (hx : ∀ x ∈ l, Fits x) : Fits (.mk k b n s l names)
theorem rights_drop {within : Nat} {l : List J} {i : Nat} (hi : i < l.length) : rightsP within (l.drop i) = (rightP within l[i] && rightsP within (l.drop (i + 1))) := by
  rw [List.drop_eq_getElem_cons hi, rightsP]
def RightC (w0 : World) (j : J) (v : Value) : Prop := ∀ (w : World) (m : Nat), Gr w0 w → m ≤ 1000 → Calls Tryd.prog 28 #[v, .int .i64 (m : Int)] w fun e w' => e = .returned (.bool (rightP m j)) ∧ Gr w w'
theorem Lies.elemG {w0 wr : World} {S : Nat → Prop} {la : Option Addr} {es : List (List Value)} (h : Lies w0 S la es.flatten) (hb : Gr w0 wr) (h6 : ∀ c ∈ es, c.length = 6) {i : Nat} {c : List Value} (hc : es[i]? = some c) :
    ∃ g off, la = some ⟨g, off, none⟩ ∧ g < w0.heap.size ∧ wr.rangeAt g (off + i * 6) c := by
  have h' : Lies w0 (fun k => S k ∧ k < w0.heap.size) la es.flatten := by
    rcases h with h | ⟨g, off, rfl, hg, hlt, hr⟩
    · exact .inl h
    · exact .inr ⟨g, off, rfl, ⟨hg, hlt⟩, hlt, hr⟩
  obtain ⟨g, off, h1, h2, h3⟩ := h'.elem (B := w0.heap.size) (fun i hi => hi.2) hb h6 hc
  exact ⟨g, off, h1, h2, h3⟩
set_option maxHeartbeats 4000000 in
set_option maxRecDepth 100000 in
theorem areRight_any {w0 : World} {S : Nat → Prop} {l : List J} {la : Option Addr} {lc : Nat} {es : List (List Value)} (hes : es.length = l.length) (h6' : ∀ c ∈ es, c.length = 6) (hc1' : ∀ c ∈ es, ∀ x ∈ c, x.oneCell' = true) (hlies : Lies w0 S la es.flatten) (hl : l.length < maxLen)
    (ih : ∀ (i : Nat) (x : J) (c : List Value), l[i]? = some x → es[i]? = some c → RightC w0 x (.agg c.toArray)) (w : World) (hw : Gr w0 w) (m : Nat) (hm' : m ≤ 1000 ∨ l.length = 0) :
    Calls Tryd.prog 47 #[.slice la l.length lc, .int .i64 (m : Int)] w fun e w' => e = .returned (.bool (rightsP m l)) ∧ Gr w w' := by
  obtain ⟨n, hn⟩ : ∃ n, l.length = n := ⟨_, rfl⟩
  have hn64 : (n : Int) ≤ 9223372036854775806 := by unfold maxLen at hl; omega
  obtain ⟨X, hX⟩ : ∃ X, rightsP m l = X := ⟨_, rfl⟩
  rw [hn, hX]
  go_enter Tryd.func47, Tryd.ntmps47
  go_wp2_with fail
  go_loopw [9] (fun c wr => ∃ i : Nat, c = .int .i64 (i : Int) ∧ i ≤ n ∧ rightsP m (l.drop i) = X ∧ Gr w wr) (fun c _ => n - (intOf c).toNat)
  case atStart => exact ⟨0, rfl, by omega, by rw [List.drop_zero]; exact hX, Gr.refl _⟩
  case round =>
    obtain ⟨i, rfl, hi, hE, hg⟩ := hrel
    rcases Nat.lt_or_ge i n with hlt | hge
    · have hm : m ≤ 1000 := hm'.resolve_right (by omega)
      have hx : l[i]? = some l[i] := List.getElem?_eq_getElem (by omega)
      have hce : es[i]? = some (es[i]'(by omega)) := List.getElem?_eq_getElem (by omega)
      have h6 := h6' _ (List.mem_of_getElem? hce)
      have hc1 := hc1' _ (List.mem_of_getElem? hce)
      have ihx := ih i _ _ hx hce
      obtain ⟨g, off, rfl, hgS, hrng⟩ := hlies.elemG (hw.trans hg) h6' hce
      have hixa : ∀ w, (Instr.indexAt 24 (.slice (some ⟨g, off, none⟩) n lc) (.int .i64 (i : Int))).run Tryd.prog w = .ok (.pointer (some ⟨g, off + i * 6, none⟩)) w := ix_slice und24 size27 hlt rfl
      have hnew : ∀ w2, Turned wr.heap.size (wr.alloc (.cells zeroJ.toArray 27)) w2 (es[i]'(by omega)) 27 → Gr wr w2 ∧ Holds w2 wr.heap.size (es[i]'(by omega)) 27 := fun w2 hT => ⟨gr_new hT, hT.holds⟩
      rw [rights_drop (by omega)] at hE
      have g1 : (i : Int) < (n : Int) := by omega
      have hi1 : (i : Int) + 1 ≤ 9223372036854775806 := by omega
      generalize l[i] = x at *
      generalize es[i]'(by omega) = c at *
      clear ih hlies
      cases hr : rightP m x with
      | false =>
        rw [hr] at hE
        have hE : X = false := by simpa using hE.symm
        subst hE
        go_wp2_with (first
          | (refine wpList_load_part rfl 27 (.tmp 11) rfl g (off + i * 6) rfl c _ hrng Tryd.underlying27 rfl (by rw [h6]; kernel_rfl) ?_)
          | (refine wpList_store_all rfl 27 (.tmp 6) (.tmp 12) rfl wr.heap.size rfl c rfl 27 zeroJ (holds_new wr zeroJ 27) (by rw [h6]; kernel_rfl) h6.symm hc1 ?_; intro w2 hT2; obtain ⟨hg2, hm2⟩ := hnew w2 hT2)
          | (refine wpList_load_part rfl 27 (.tmp 6) rfl wr.heap.size 0 rfl c _ (range_of hm2) Tryd.underlying27 rfl (by rw [h6]; kernel_rfl) ?_)
          | (go_at_call 28; refine (ihx w2 m ((hw.trans hg).trans hg2) hm).mono ?_; rw [hr]; rintro e w3 ⟨rfl, hg3⟩))
        go_ret
        exact ⟨rfl, (hg.trans hg2).trans hg3⟩
      | true =>
        rw [hr, Bool.true_and] at hE
        go_wp2_with (first
          | (refine wpList_load_part rfl 27 (.tmp 11) rfl g (off + i * 6) rfl c _ hrng Tryd.underlying27 rfl (by rw [h6]; kernel_rfl) ?_)
          | (refine wpList_store_all rfl 27 (.tmp 6) (.tmp 12) rfl wr.heap.size rfl c rfl 27 zeroJ (holds_new wr zeroJ 27) (by rw [h6]; kernel_rfl) h6.symm hc1 ?_; intro w2 hT2; obtain ⟨hg2, hm2⟩ := hnew w2 hT2)
          | (refine wpList_load_part rfl 27 (.tmp 6) rfl wr.heap.size 0 rfl c _ (range_of hm2) Tryd.underlying27 rfl (by rw [h6]; kernel_rfl) ?_)
          | (go_at_call 28; refine (ihx w2 m ((hw.trans hg).trans hg2) hm).mono ?_; rw [hr]; rintro e w3 ⟨rfl, hg3⟩))
        exact ⟨⟨i + 1, rfl, by omega, hE, (hg.trans hg2).trans hg3⟩, by simp; omega⟩
    · have hin : i = n := by omega
      subst hin
      have g1 : ¬ (i : Int) < (i : Int) := by omega
      rw [List.drop_of_length_le (by omega), rightsP] at hE
      subst hE
      go_wp2
      go_ret
      exact ⟨rfl, hg⟩
/-- The cells of an element. -/
theorem es_one {w0 : World} {S : Nat → Prop} {l : List J} {es : List (List Value)} (hes : es.length = l.length) (hl : ∀ (i : Nat) (x : J) (c : List Value), l[i]? = some x → es[i]? = some c → JAt w0 S x (.agg c.toArray)) : ∀ c ∈ es, ∀ x ∈ c, x.oneCell' = true := by
  intro c hc x hx
  obtain ⟨i, hi⟩ := List.mem_iff_getElem?.1 hc
  have hil : i < l.length := by rw [← hes]; exact (List.getElem?_eq_some_iff.1 hi).1
  obtain ⟨d, hd, _, h1⟩ := jat_cells (hl i l[i] c (List.getElem?_eq_getElem hil) hi)
  have : c.toArray = d.toArray := by cases hd; rfl
  have : c = d := by simpa using this
  subst this
  exact h1 x hx
theorem right_ok {w0 : World} {S : Nat → Prop} : ∀ {j : J} {v : Value}, JAt w0 S j v → Fits j → RightC w0 j v := by
  intro j v hJ
  induction hJ with
  | mk k b n s l names la na lc nc es hes h6 hl hlies hnames ih =>
    intro hF w m hw hm
    obtain ⟨hll, hnl, hsl, hfx⟩ := hF
    rw [rightP]
    exact isRight_all hm fun hb => ⟨fun y hy => areOnce_any (hnames.mono fun i h1 h2 => ⟨h1, (hw.trans hy).block i h2⟩) hnl hsl, fun y hy => areRight_any hes h6 (es_one hes hl) hlies hll (fun i x c h1 h2 => ih i x c h1 h2 (hfx x (List.mem_of_getElem? h1))) y (hw.trans hy) (m + 1) (by have := bad_deep hb; omega)⟩
set_option maxRecDepth 100000 in
theorem right_any {w : World} {S : Nat → Prop} {j : J} {v : Value} (h : JAt w S j v) (hF : Fits j) : Calls Tryd.prog 18 #[v] w fun e w' => e = .returned (.bool (rightP 0 j)) ∧ Gr w w' := by
  obtain ⟨cs, rfl, h6, h1⟩ := jat_cells h
  have hr := right_ok h hF (w.alloc (.cells cs.toArray 27)) 0 (Gr.alloc _ _) (by omega)
  have hg := Gr.alloc w (.cells cs.toArray 27)
  have hn := holds_new w cs 27
  generalize rightP 0 j = X at *
  clear h hF
  go_enter Tryd.func18, Tryd.ntmps18
  go_wp2_with (first
    | (refine wpList_load_part rfl 27 (.tmp 1) rfl w.heap.size 0 rfl cs _ (range_of hn) Tryd.underlying27 rfl (by rw [h6]; kernel_rfl) ?_)
    | (go_at_call 28; refine hr.mono ?_; rintro e w3 ⟨rfl, hg3⟩))
  go_ret
  exact ⟨rfl, hg.trans hg3⟩
end Go.Proofs.YtogippkapadolaaDoor

/- Same of the program, one value of parts. -/
namespace Go.Proofs.YtogippkapadolaaDoor
open Go.RowKit

theorem strL_ne {s s' : List UInt8} (hs : ¬ s = s') : ¬ strL s = strL s' := fun h => hs (by simpa [strL] using congrArg (fun x => x.data.toList) h)
theorem toList_ne {s s' : List UInt8} (hs : ¬ s = s') : ¬ (strL s).toList = (strL s').toList := fun h => hs (by rw [ByteArray.toList_eq, ByteArray.toList_eq] at h; simpa [strL] using h)
theorem cell_two0 (w : World) (cs ds : Array Value) (i : Nat) (v : Value) (h : cs[i]? = some v) : ((w.alloc (.cells cs 27)).alloc (.cells ds 27)).cell? ⟨w.heap.size, i, none⟩ = some v := by
  have h1 : Holds ((w.alloc (.cells cs 27)).alloc (.cells ds 27)) w.heap.size cs.toList 27 := by
    have := (holds_new w cs.toList 27).alloc (.cells ds 27)
    simpa using this
  have := range_of h1 i v (by simpa using h)
  simpa using this
theorem cell_two1 (w : World) (cs ds : Array Value) (i : Nat) (v : Value) (h : ds[i]? = some v) : ((w.alloc (.cells cs 27)).alloc (.cells ds 27)).cell? ⟨w.heap.size + 1, i, none⟩ = some v := by
  have h1 : Holds ((w.alloc (.cells cs 27)).alloc (.cells ds 27)) (w.heap.size + 1) ds.toList 27 := by
    have := (holds_new (w.alloc (.cells cs 27)) ds.toList 27)
    simpa using this
  have := range_of h1 i v (by simpa using h)
  simpa using this
set_option maxHeartbeats 4000000 in
set_option maxRecDepth 100000 in
theorem same_val {k k' : Int} {b b' : Bool} {n n' : Int} {s s' : List UInt8} {la na la' na' : Option Addr} {ll lc nl nc ll' lc' nl' nc' : Nat} {w : World} {X Y : Bool}
    (h30 : ∀ y, Gr w y → Calls Tryd.prog 30 #[.slice na nl nc, .slice na' nl' nc'] y fun e z => e = .returned (.bool X) ∧ Gr y z)
    (h31 : X = true → ∀ y, Gr w y → Calls Tryd.prog 31 #[.slice la ll lc, .slice la' ll' lc', .func (.func 20) #[] #[]] y fun e z => e = .returned (.bool Y) ∧ Gr y z) :
    Calls Tryd.prog 20 #[.agg #[.int .i64 k, .bool b, .int .i64 n, .string (strL s), .slice la ll lc, .slice na nl nc], .agg #[.int .i64 k', .bool b', .int .i64 n', .string (strL s'), .slice la' ll' lc', .slice na' nl' nc']] w fun e w' => e = .returned (.bool (decide (k = k') && (b == b') && decide (n = n') && decide (s = s') && X && Y)) ∧ Gr w w' := by
  obtain ⟨W, hW⟩ : ∃ W, (w.alloc (.cells #[.int .i64 k, .bool b, .int .i64 n, .string (strL s), .slice la ll lc, .slice na nl nc] 27)).alloc (.cells #[.int .i64 k', .bool b', .int .i64 n', .string (strL s'), .slice la' ll' lc', .slice na' nl' nc'] 27) = W := ⟨_, rfl⟩
  have hg : Gr w W := hW ▸ (Gr.alloc _ _).trans (Gr.alloc _ _)
  have c0 : W.cell? ⟨w.heap.size, 4, none⟩ = some (.slice la ll lc) := by
    rw [← hW]; exact cell_two0 _ _ _ 4 _ rfl
  have c1 : W.cell? ⟨w.heap.size + 1, 4, none⟩ = some (.slice la' ll' lc') := by
    rw [← hW]; exact cell_two1 _ _ _ 4 _ rfl
  have hlt : w.heap.size + 1 < W.heap.size := by rw [← hW]; simp
  by_cases hk : k = k'
  case neg =>
    have g : (k == k') = false := by simp [hk]
    simp only [decide_eq_false hk, Bool.false_and]
    clear h30 h31 c0 c1 hlt hk
    subst hW
    go_enter Tryd.func20, Tryd.ntmps20
    go_wp2
    go_ret
    exact ⟨rfl, hg⟩
  subst hk
  by_cases hb : b = b'
  case neg =>
    have g : (b == b') = false := by simp [hb]
    simp only [g, decide_true, Bool.true_and, Bool.false_and]
    clear h30 h31 c0 c1 hlt hb
    subst hW
    go_enter Tryd.func20, Tryd.ntmps20
    go_wp2
    go_ret
    exact ⟨rfl, hg⟩
  subst hb
  by_cases hn : n = n'
  case neg =>
    have g : (n == n') = false := by simp [hn]
    simp only [decide_eq_false hn, decide_true, beq_self_eq_true, Bool.true_and, Bool.false_and]
    clear h30 h31 c0 c1 hlt hn
    subst hW
    go_enter Tryd.func20, Tryd.ntmps20
    go_wp2
    go_ret
    exact ⟨rfl, hg⟩
  subst hn
  by_cases hs : s = s'
  case neg =>
    have g := toList_ne hs
    have g2 : ((strL s).toList == (strL s').toList) = false := by simp [g]
    simp only [decide_eq_false hs, decide_true, beq_self_eq_true, Bool.true_and, Bool.false_and]
    clear h30 h31 c0 c1 hlt hs
    subst hW
    go_enter Tryd.func20, Tryd.ntmps20
    go_wp2
    go_ret
    exact ⟨rfl, hg⟩
  subst hs
  simp only [decide_true, beq_self_eq_true, Bool.true_and]
  cases X with
  | false =>
    clear h31
    subst hW
    go_enter Tryd.func20, Tryd.ntmps20
    go_wp2_with (go_at_call 30; refine (h30 _ hg).mono ?_; rintro e w3 ⟨rfl, hg3⟩)
    go_ret
    exact ⟨rfl, hg.trans hg3⟩
  | true =>
    have h32 := h31 rfl
    clear h31
    subst hW
    go_enter Tryd.func20, Tryd.ntmps20
    go_wp2_with (first
      | (go_at_call 30; refine (h30 _ hg).mono ?_; rintro e w3 ⟨rfl, hg3⟩; have c0 := cell_below hg3 (by omega) c0; have c1 := cell_below hg3 (by omega) c1)
      | (go_at_call 31; refine (h32 _ (hg.trans hg3)).mono ?_; rintro e w4 ⟨rfl, hg4⟩))
    go_ret
    exact ⟨rfl, (hg.trans hg3).trans hg4⟩
end Go.Proofs.YtogippkapadolaaDoor

/- Same of the program, at every two values. -/
namespace Go.Proofs.YtogippkapadolaaDoor
open Go.RowKit

mutual
/-- Two values are one. -/
def sameB : J → J → Bool
  | .mk k b n s l names, .mk k' b' n' s' l' names' => decide (k = k') && (b == b') && decide (n = n') && decide (s = s') && decide (names = names') && samesB l l'
def samesB : List J → List J → Bool
  | [], [] => true
  | x :: r, y :: t => sameB x y && samesB r t
  | [], _ :: _ => false
  | _ :: _, [] => false
end
theorem samesB_len : ∀ {l l' : List J}, samesB l l' = true → l.length = l'.length
  | [], [], _ => rfl
  | x :: r, y :: t, h => by
    rw [samesB, Bool.and_eq_true] at h
    simp [samesB_len h.2]
  | [], _ :: _, h => by simp [samesB] at h
  | _ :: _, [], h => by simp [samesB] at h
theorem samesB_ne {l l' : List J} (h : l.length ≠ l'.length) : samesB l l' = false := by
  cases e : samesB l l' with
  | false => rfl
  | true => exact absurd (samesB_len e) h
mutual
theorem sameB_eq : ∀ {x y : J}, sameB x y = true ↔ x = y
  | .mk k b n s l names, .mk k' b' n' s' l' names' => by
    rw [sameB]
    simp only [Bool.and_eq_true, decide_eq_true_eq, beq_iff_eq, J.mk.injEq, samesB_eq]
    constructor
    · rintro ⟨⟨⟨⟨⟨h1, h2⟩, h3⟩, h4⟩, h5⟩, h6⟩; exact ⟨h1, h2, h3, h4, h6, h5⟩
    · rintro ⟨h1, h2, h3, h4, h6, h5⟩; exact ⟨⟨⟨⟨⟨h1, h2⟩, h3⟩, h4⟩, h5⟩, h6⟩
theorem samesB_eq : ∀ {l l' : List J}, samesB l l' = true ↔ l = l'
  | [], [] => by simp [samesB]
  | x :: r, y :: t => by
    rw [samesB]
    simp only [Bool.and_eq_true, List.cons.injEq, sameB_eq, samesB_eq]
  | [], _ :: _ => by simp [samesB]
  | _ :: _, [] => by simp [samesB]
end
theorem names_cell {w : World} {S : Nat → Prop} {na : Option Addr} {names : List (List UInt8)} (h : Lies w S na (names.map strV1)) (h0 : names ≠ []) :
    ∃ g o, na = some ⟨g, o, none⟩ ∧ ∀ j, j < (names.map strL).length → w.cell? ⟨g, o + j, none⟩ = some (.string ((names.map strL).getD j ByteArray.empty)) := by
  rcases h with h | ⟨g, o, rfl, _, _, hr⟩
  · exact absurd (by simpa using h) h0
  · refine ⟨g, o, rfl, fun j hj => hr j _ ?_⟩
    have hj : j < names.length := by simpa using hj
    simp [strV1, List.getD, hj]
theorem drewN_gr (w : World) (q : Nat) : Gr w (w.drewN q) := by
  exact ⟨rfl, rfl, rfl, Nat.le_refl _, fun _ _ => rfl⟩
theorem equal_names {w : World} {S S' : Nat → Prop} {na na' : Option Addr} {nc nc' : Nat} {names names' : List (List UInt8)} (h : Lies w S na (names.map strV1)) (h' : Lies w S' na' (names'.map strV1)) (hl : names.length < maxLen) (hl' : names'.length < maxLen) :
    Calls Tryd.prog 30 #[.slice na names.length nc, .slice na' names'.length nc'] w fun e z => e = .returned (.bool (decide (names = names'))) ∧ Gr w z := by
  have b1 : names.length ≤ 9223372036854775807 := by unfold maxLen at hl; omega
  have b2 : names'.length ≤ 9223372036854775807 := by unfold maxLen at hl'; omega
  by_cases hne : names.length = names'.length
  · by_cases h0 : names = []
    · subst h0
      have h0' : names' = [] := List.eq_nil_of_length_eq_zero hne.symm
      subst h0'
      refine (Tryd.slices_Equal_string_empty na na' nc 0 nc' w (by omega)).mono ?_
      rintro e z ⟨rfl, rfl⟩
      exact ⟨rfl, Gr.refl _⟩
    · have h0' : names' ≠ [] := by rintro rfl; exact h0 (List.eq_nil_of_length_eq_zero hne)
      obtain ⟨g, o, rfl, hc⟩ := names_cell h h0
      obtain ⟨g', o', rfl, hc'⟩ := names_cell h' h0'
      refine (Tryd.slices_Equal_string g o names.length nc g' o' names'.length nc' (names.map strL) (names'.map strL) w (by simp) (by simp) b1 b2 hc hc').mono ?_
      rintro e z ⟨rfl, q, rfl⟩
      refine ⟨?_, drewN_gr _ _⟩
      rw [List.take_of_length_le (by simp), List.take_of_length_le (by simp)]
      have : (names.map strL = names'.map strL) ↔ names = names' := List.map_inj_right (fun x y e => by simpa [strL] using congrArg (fun x => x.data.toList) e)
      simp only [this]
  · refine (Tryd.slices_Equal_string_lens na na' names.length nc names'.length nc' w hne).mono ?_
    rintro e z ⟨rfl, rfl⟩
    refine ⟨?_, Gr.refl _⟩
    rw [decide_eq_false (fun e => hne (by rw [e]))]
def SameC (w0 : World) (j : J) (v : Value) (j' : J) (v' : Value) : Prop := ∀ (w : World), Gr w0 w → Calls Tryd.prog 20 #[v, v'] w fun e w' => e = .returned (.bool (sameB j j')) ∧ Gr w w'
theorem sames_drop {l l' : List J} {i : Nat} (hi : i < l.length) (hi' : i < l'.length) : samesB (l.drop i) (l'.drop i) = (sameB l[i] l'[i] && samesB (l.drop (i + 1)) (l'.drop (i + 1))) := by
  rw [List.drop_eq_getElem_cons hi, List.drop_eq_getElem_cons hi', samesB]
set_option maxHeartbeats 4000000 in
set_option maxRecDepth 100000 in
theorem equalFunc_any {w0 : World} {S S' : Nat → Prop} {l l' : List J} {la la' : Option Addr} {lc lc' : Nat} {es es' : List (List Value)} (hes : es.length = l.length) (h6' : ∀ c ∈ es, c.length = 6) (hc1' : ∀ c ∈ es, ∀ x ∈ c, x.oneCell' = true) (hlies : Lies w0 S la es.flatten) (hl : l.length < maxLen)
    (hes' : es'.length = l'.length) (k6' : ∀ c ∈ es', c.length = 6) (kc1' : ∀ c ∈ es', ∀ x ∈ c, x.oneCell' = true) (hlies' : Lies w0 S' la' es'.flatten) (_hl' : l'.length < maxLen)
    (ih : ∀ (i : Nat) (x y : J) (c d : List Value), l[i]? = some x → es[i]? = some c → l'[i]? = some y → es'[i]? = some d → SameC w0 x (.agg c.toArray) y (.agg d.toArray)) (w : World) (hw : Gr w0 w) :
    Calls Tryd.prog 31 #[.slice la l.length lc, .slice la' l'.length lc', .func (.func 20) #[] #[]] w fun e w' => e = .returned (.bool (samesB l l')) ∧ Gr w w' := by
  by_cases hne : l.length = l'.length
  case neg =>
    rw [samesB_ne hne]
    have g : ((l.length : Int) != (l'.length : Int)) = true := by simp; omega
    generalize l.length = x at *
    generalize l'.length = y at *
    clear ih hes hes' hlies hlies'
    go_enter Tryd.func31, Tryd.ntmps31
    go_wp2
    go_ret
    exact ⟨rfl, Gr.refl _⟩
  obtain ⟨n, hn⟩ : ∃ n, l.length = n := ⟨_, rfl⟩
  have hn' : l'.length = n := by omega
  have hn64 : (n : Int) ≤ 9223372036854775806 := by unfold maxLen at hl; omega
  obtain ⟨X, hX⟩ : ∃ X, samesB l l' = X := ⟨_, rfl⟩
  rw [hn, hn', hX]
  clear hne
  go_enter Tryd.func31, Tryd.ntmps31
  go_wp2_with fail
  go_loopw [17] (fun c wr => ∃ i : Nat, c = .int .i64 (i : Int) ∧ i ≤ n ∧ samesB (l.drop i) (l'.drop i) = X ∧ Gr w wr) (fun c _ => n - (intOf c).toNat)
  case atStart => exact ⟨0, rfl, by omega, by rw [List.drop_zero, List.drop_zero]; exact hX, Gr.refl _⟩
  case round =>
    obtain ⟨i, rfl, hi, hE, hg⟩ := hrel
    rcases Nat.lt_or_ge i n with hlt | hge
    · have hx : l[i]? = some l[i] := List.getElem?_eq_getElem (by omega)
      have hy : l'[i]? = some l'[i] := List.getElem?_eq_getElem (by omega)
      have hce : es[i]? = some (es[i]'(by omega)) := List.getElem?_eq_getElem (by omega)
      have hde : es'[i]? = some (es'[i]'(by omega)) := List.getElem?_eq_getElem (by omega)
      have h6 := h6' _ (List.mem_of_getElem? hce)
      have hc1 := hc1' _ (List.mem_of_getElem? hce)
      have k6 := k6' _ (List.mem_of_getElem? hde)
      have kc1 := kc1' _ (List.mem_of_getElem? hde)
      have ihx := ih i _ _ _ _ hx hce hy hde
      obtain ⟨g, off, rfl, hgS, hrng⟩ := hlies.elemG (hw.trans hg) h6' hce
      have hrng' : ∃ g' off', la' = some ⟨g', off', none⟩ ∧ ∀ z, Gr wr z → z.rangeAt g' (off' + i * 6) (es'[i]'(by omega)) := by
        obtain ⟨g', off', e1, e2, e3⟩ := hlies'.elemG (hw.trans hg) k6' hde
        exact ⟨g', off', e1, fun z hz => fun j v hv => cell_below hz (Nat.lt_of_lt_of_le e2 (hw.trans hg).size) (e3 j v hv)⟩
      obtain ⟨g', off', rfl, hrng'⟩ := hrng'
      have hixa : ∀ w, (Instr.indexAt 24 (.slice (some ⟨g, off, none⟩) n lc) (.int .i64 (i : Int))).run Tryd.prog w = .ok (.pointer (some ⟨g, off + i * 6, none⟩)) w := ix_slice und24 size27 hlt rfl
      have hixb : ∀ w, (Instr.indexAt 24 (.slice (some ⟨g', off', none⟩) n lc') (.int .i64 (i : Int))).run Tryd.prog w = .ok (.pointer (some ⟨g', off' + i * 6, none⟩)) w := ix_slice und24 size27 hlt rfl
      have hnew : ∀ w2, Turned wr.heap.size (wr.alloc (.cells zeroJ.toArray 27)) w2 (es[i]'(by omega)) 27 → Gr wr w2 ∧ Holds w2 wr.heap.size (es[i]'(by omega)) 27 := fun w2 hT => ⟨gr_new hT, hT.holds⟩
      have hnew' : ∀ w2 w4, Turned w2.heap.size (w2.alloc (.cells zeroJ.toArray 27)) w4 (es'[i]'(by omega)) 27 → Gr w2 w4 ∧ Holds w4 w2.heap.size (es'[i]'(by omega)) 27 := fun w2 w4 hT => ⟨gr_new hT, hT.holds⟩
      rw [sames_drop (by omega) (by omega)] at hE
      have g1 : (i : Int) < (n : Int) := by omega
      have hi1 : (i : Int) + 1 ≤ 9223372036854775806 := by omega
      generalize l[i] = x at *
      generalize l'[i] = y at *
      generalize es[i]'(by omega) = c at *
      generalize es'[i]'(by omega) = d at *
      clear ih hlies hlies'
      cases hr : sameB x y with
      | false =>
        rw [hr] at hE
        have hE : X = false := by simpa using hE.symm
        subst hE
        go_wp2_with (first
          | (refine wpList_load_part rfl 27 (.tmp 20) rfl g (off + i * 6) rfl c _ hrng Tryd.underlying27 rfl (by rw [h6]; kernel_rfl) ?_)
          | (refine wpList_store_all rfl 27 (.tmp 8) (.tmp 21) rfl wr.heap.size rfl c rfl 27 zeroJ (holds_new wr zeroJ 27) (by rw [h6]; kernel_rfl) h6.symm hc1 ?_; intro w2 hT2; obtain ⟨hg2, hm2⟩ := hnew w2 hT2; have hrng' := hrng' w2 hg2)
          | (refine wpList_load_part rfl 27 (.tmp 24) rfl g' (off' + i * 6) rfl d _ hrng' Tryd.underlying27 rfl (by rw [k6]; kernel_rfl) ?_)
          | (refine wpList_store_all rfl 27 (.tmp 9) (.tmp 25) rfl w2.heap.size rfl d rfl 27 zeroJ (holds_new w2 zeroJ 27) (by rw [k6]; kernel_rfl) k6.symm kc1 ?_; intro w4 hT4; obtain ⟨hg4, hm4⟩ := hnew' w2 w4 hT4; have hm2 := hm2.gr hg4)
          | (refine wpList_load_part rfl 27 (.tmp 8) rfl wr.heap.size 0 rfl c _ (range_of hm2) Tryd.underlying27 rfl (by rw [h6]; kernel_rfl) ?_)
          | (refine wpList_load_part rfl 27 (.tmp 9) rfl w2.heap.size 0 rfl d _ (range_of hm4) Tryd.underlying27 rfl (by rw [k6]; kernel_rfl) ?_)
          | (go_at_call 20; refine (ihx w4 (((hw.trans hg).trans hg2).trans hg4)).mono ?_; rw [hr]; rintro e w5 ⟨rfl, hg5⟩))
        go_ret
        exact ⟨rfl, (((hg.trans hg2).trans hg4).trans hg5)⟩
      | true =>
        rw [hr, Bool.true_and] at hE
        go_wp2_with (first
          | (refine wpList_load_part rfl 27 (.tmp 20) rfl g (off + i * 6) rfl c _ hrng Tryd.underlying27 rfl (by rw [h6]; kernel_rfl) ?_)
          | (refine wpList_store_all rfl 27 (.tmp 8) (.tmp 21) rfl wr.heap.size rfl c rfl 27 zeroJ (holds_new wr zeroJ 27) (by rw [h6]; kernel_rfl) h6.symm hc1 ?_; intro w2 hT2; obtain ⟨hg2, hm2⟩ := hnew w2 hT2; have hrng' := hrng' w2 hg2)
          | (refine wpList_load_part rfl 27 (.tmp 24) rfl g' (off' + i * 6) rfl d _ hrng' Tryd.underlying27 rfl (by rw [k6]; kernel_rfl) ?_)
          | (refine wpList_store_all rfl 27 (.tmp 9) (.tmp 25) rfl w2.heap.size rfl d rfl 27 zeroJ (holds_new w2 zeroJ 27) (by rw [k6]; kernel_rfl) k6.symm kc1 ?_; intro w4 hT4; obtain ⟨hg4, hm4⟩ := hnew' w2 w4 hT4; have hm2 := hm2.gr hg4)
          | (refine wpList_load_part rfl 27 (.tmp 8) rfl wr.heap.size 0 rfl c _ (range_of hm2) Tryd.underlying27 rfl (by rw [h6]; kernel_rfl) ?_)
          | (refine wpList_load_part rfl 27 (.tmp 9) rfl w2.heap.size 0 rfl d _ (range_of hm4) Tryd.underlying27 rfl (by rw [k6]; kernel_rfl) ?_)
          | (go_at_call 20; refine (ihx w4 (((hw.trans hg).trans hg2).trans hg4)).mono ?_; rw [hr]; rintro e w5 ⟨rfl, hg5⟩))
        exact ⟨⟨i + 1, rfl, by omega, hE, (((hg.trans hg2).trans hg4).trans hg5)⟩, by simp; omega⟩
    · have hin : i = n := by omega
      subst hin
      have g1 : ¬ (i : Int) < (i : Int) := by omega
      rw [List.drop_of_length_le (by omega), List.drop_of_length_le (by omega), samesB] at hE
      subst hE
      go_wp2
      go_ret
      exact ⟨rfl, hg⟩
theorem same_ok {w0 : World} {S : Nat → Prop} : ∀ {j : J} {v : Value}, JAt w0 S j v → ∀ {S' : Nat → Prop} {j' : J} {v' : Value}, JAt w0 S' j' v' → Fits j → Fits j' → SameC w0 j v j' v' := by
  intro j v hJ
  induction hJ with
  | mk k b n s l names la na lc nc es hes h6 hl hlies hnames ih =>
    intro S' j' v' hJ' hF hF' w hw
    cases hJ' with
    | mk k' b' n' s' l' names' la' na' lc' nc' es' hes' h6' hl' hlies' hnames' =>
      obtain ⟨hll, hnl, hsl, hfx⟩ := hF
      obtain ⟨hll', hnl', hsl', hfx'⟩ := hF'
      rw [sameB]
      exact same_val (X := decide (names = names')) (Y := samesB l l') (fun y hy => equal_names (hnames.mono fun i h1 h2 => ⟨h1, (hw.trans hy).block i h2⟩) (hnames'.mono fun i h1 h2 => ⟨h1, (hw.trans hy).block i h2⟩) hnl hnl')
        fun _ y hy => equalFunc_any hes h6 (es_one hes hl) hlies hll hes' h6' (es_one hes' hl') hlies' hll' (fun i x y c d h1 h2 h3 h4 => ih i x c h1 h2 (hl' i y d h3 h4) (hfx x (List.mem_of_getElem? h1)) (hfx' y (List.mem_of_getElem? h3))) y (hw.trans hy)
end Go.Proofs.YtogippkapadolaaDoor

/- (As for clock.) append of whatever slice (nil, or of no element, too) onto a row that the call owns. -/
namespace Go.Proofs.YtogippkapadolaaDoor

theorem wpList_append_src {P : Program} {w : World} {ops : Array Oper} {rest : List Oper} {o : Oper} {a : Act} {Q : Exit → Act → World → Prop} (hgd : o.guard = none) (s x : Operand) (t : TypeId)
    (ho : o.op = .call { callee := .builtin .append, args := #[s, x], argTypes := #[t, t] })
    (base : Nat) (e : TypeId) (i : TypeInfo) (z : Value) (size bytes : Nat) (ht : P.underlying t = some (.slice e)) (hi : P.info? e = some i) (hz : i.zero = some z)
    (hsize : i.size = size) (hby : i.bytes = bytes) (hzs : z.cells.size = size) (hsz : 0 < size)
    (v : Value) (n : Nat) (xs : List Value) (hown : w.ownsRow base e size v n xs) (hs : a.eval s = v)
    (news : List Value) (ad : Option Addr) (m c : Nat) (hx : a.eval x = .slice ad m c) (hl : news.length = m * size)
    (hnews : 0 < m → ∃ p, ad = some p ∧ ∀ j u, news[j]? = some u → w.cell? (p.add j) = some u) (h1 : ∀ u ∈ news, u.oneCell' = true)
    (h63 : n + m ≤ maxLen) (hbytes : (n + m) * bytes ≤ 140737488355328) (hbase : base ≤ w.heap.size)
    (h : ∀ v' w', w'.ownsRow base e size v' (n + m) (xs ++ news) → w.grownBy w' v.ownBlock → (v'.ownBlock = v.ownBlock ∨ v'.ownBlock = some w.heap.size) → wpList P ops Q rest (a.put o.dst v') w') : wpList P ops Q (o :: rest) a w := by
  cases ad with
  | some p =>
    refine wpList_append_own_at w hgd s x t ho base e i z size bytes ht hi hz hsize hby hzs hsz v n xs hs hown p m c news hx hl ?_ h1 h63 hbytes hbase (fun v' w' a1 a2 _ a4 => h v' w' a1 a2 a4)
    rcases Nat.eq_zero_or_pos m with hm | hm
    · have : news = [] := List.eq_nil_of_length_eq_zero (by rw [hl, hm]; simp)
      subst this
      intro j u hj
      simp at hj
    · obtain ⟨p', e', h'⟩ := hnews hm
      cases e'
      exact h'
  | none =>
    have hm : m = 0 := by
      rcases Nat.eq_zero_or_pos m with hm | hm
      · exact hm
      · obtain ⟨p', e', _⟩ := hnews hm
        cases e'
    subst hm
    have : news = [] := List.eq_nil_of_length_eq_zero (by rw [hl]; simp)
    subst this
    refine wpList_plain hgd fun K hK => ?_
    have hr : (Builtin.append_ #[t, t] o.type #[v, .slice none 0 c]).run P w = .ok v w := by
      obtain ⟨_, ⟨rfl, _⟩ | ⟨g, cap, cur, rfl, _, _, hc, _⟩⟩ := id hown
      · exact run_append_nothing w t t _ e i ht hi none 0 0 (Nat.le_refl _) _ (Src.ofNil w ht c)
      · exact run_append_nothing w t t _ e i ht hi _ _ _ hc _ (Src.ofNil w ht c)
    unfold Oper.wp execOp
    simp only [ho, resolve, invoke, builtin, Sem.run_bind, Sem.run_pure, Result.andThen_ok, List.map_toArray, List.map_cons, List.map_nil, hs, hx, hr]
    exact hK _ _ (h v w (by simpa using hown) (World.grownBy.refl _ _) (.inl rfl))
end Go.Proofs.YtogippkapadolaaDoor

/- Clone of the program: of names and of elements. -/
namespace Go.Proofs.YtogippkapadolaaDoor
open Go.RowKit

theorem own_lies {w : World} {B n c : Nat} {e : TypeId} {z : Nat} {ad : Option Addr} {xs : List Value} (h : w.ownsRow B e z (.slice ad n c) n xs) : Lies w (fun k => B ≤ k) ad xs := by
  obtain ⟨hl, ⟨h1, h2⟩ | ⟨g, cap, cur, h1, h2, h3, h4, h5, h6, h7⟩⟩ := h
  · subst h2
    exact .inl (List.eq_nil_of_length_eq_zero (by simpa using hl))
  · cases h1
    refine .inr ⟨g, 0, rfl, h2, (Array.getElem?_eq_some_iff.1 h3).1, fun j v hv => ?_⟩
    have hj : cur.toList[j]? = some v := by
      have hlt : j < xs.length := (List.getElem?_eq_some_iff.1 hv).1
      rw [← h7, List.getElem?_take] at hv
      split at hv
      · exact hv
      · cases hv
    simp only [World.cell?, h3, Nat.zero_add]
    simpa using hj
theorem own_grown {w : World} {B n : Nat} {e : TypeId} {z : Nat} {v : Value} {xs : List Value} (h : w.ownsRow B e z v n xs) : ∃ ad c, v = .slice ad n c := by
  rcases h.2 with ⟨rfl, rfl⟩ | ⟨g, cap, cur, rfl, _⟩
  · exact ⟨_, _, rfl⟩
  · exact ⟨_, _, rfl⟩
theorem clone_names {w : World} {S : Nat → Prop} {na : Option Addr} {nc : Nat} {names : List (List UInt8)} (h : Lies w S na (names.map strV1)) (hl : names.length * 16 ≤ 140737488355328) :
    Calls Tryd.prog 38 #[.slice na names.length nc] w fun e w' => ∃ ad c, e = .returned (.slice ad names.length c) ∧ w'.ownsRow w.heap.size 9 1 (.slice ad names.length c) names.length (names.map strV1) ∧ Gr w w' := by
  by_cases h0 : names = []
  · subst h0
    cases na with
    | none =>
      refine (Tryd.slices_Clone_string_nil 0 nc w).mono ?_
      rintro e z ⟨rfl, rfl⟩
      exact ⟨none, 0, rfl, World.ownsRow_nil _ _ _ _, Gr.refl _⟩
    | some a =>
      refine (Tryd.slices_Clone_string_zero a nc w).mono ?_
      rintro e z ⟨v, rfl, h1, _, h2⟩
      obtain ⟨ad, c, rfl⟩ := own_grown h1
      exact ⟨ad, c, rfl, h1, h2⟩
  · obtain ⟨g, o, rfl, hc⟩ := names_cell h h0
    refine (Tryd.slices_Clone_string g o names.length nc (names.map strL) w (by simp) hl hc).mono ?_
    rintro e z ⟨v, rfl, h1, _, h2⟩
    obtain ⟨ad, c, rfl⟩ := own_grown h1
    refine ⟨ad, c, rfl, ?_, h2⟩
    rw [List.take_of_length_le (by simp), List.map_map] at h1
    exact h1
theorem bs240 (y : World) : (Instr.buildSlice 24 0 #[]).run Tryd.prog y = .ok (.slice (some ⟨y.heap.size, 0, none⟩) 0 0) (y.alloc (.cells #[] 27)) := by kernel_rfl
set_option maxHeartbeats 4000000 in
set_option maxRecDepth 100000 in
theorem clone_elems {w : World} {S : Nat → Prop} {la : Option Addr} {n lc : Nat} {es : List (List Value)} (hes : es.length = n) (h6 : ∀ c ∈ es, c.length = 6) (h1 : ∀ c ∈ es, ∀ x ∈ c, x.oneCell' = true) (h : Lies w S la es.flatten) (hl : n * 88 ≤ 140737488355328) :
    Calls Tryd.prog 39 #[.slice la n lc] w fun e w' => ∃ ad c, e = .returned (.slice ad n c) ∧ w'.ownsRow w.heap.size 27 6 (.slice ad n c) n es.flatten ∧ Gr w w' := by
  have hfl : es.flatten.length = n * 6 := by
    subst hes
    clear h hl h1
    induction es with
    | nil => rfl
    | cons c t ih =>
      rw [List.flatten_cons, List.length_append, ih (fun c hc => h6 c (List.mem_cons_of_mem _ hc)), h6 c (List.mem_cons_self ..), List.length_cons]
      omega
  have hof : ∀ x ∈ es.flatten, x.oneCell' = true := by
    intro x hx
    obtain ⟨c, hc, hxc⟩ := List.mem_flatten.1 hx
    exact h1 c hc x hxc
  generalize es.flatten = F at *
  clear hes h6 h1
  cases la with
  | none =>
    have hn : n = 0 := by
      rcases h with h | ⟨g, o, h, _⟩
      · rw [h] at hfl; simp at hfl; omega
      · cases h
    subst hn
    have hF : F = [] := List.eq_nil_of_length_eq_zero (by simpa using hfl)
    subst hF
    have hb : ∀ w, (binOp .eql 24 (.slice none 0 lc) (.slice none 0 0)).run Tryd.prog w = .ok (.bool true) w := fun w => by kernel_rfl
    go_enter Tryd.func39, Tryd.ntmps39
    go_wp2
    go_ret
    exact ⟨none, 0, rfl, World.ownsRow_nil _ _ _ _, Gr.refl _⟩
  | some a =>
    obtain ⟨i, i1, i2, i3, i4⟩ := inf27
    have hsrc : ∀ z, Gr w z → 0 < n → ∃ p, some a = some p ∧ ∀ j u, F[j]? = some u → z.cell? (p.add j) = some u := by
      intro z hz h0
      rcases h with h | ⟨g, o, h, _, hlt, hr⟩
      · rw [h] at hfl; simp at hfl; omega
      · cases h
        refine ⟨_, rfl, fun j u hu => ?_⟩
        have := cell_below hz hlt (hr j u hu)
        rw [Addr.add_mid]; exact this
    have hb : ∀ w, (binOp .eql 24 (.slice (some a) n lc) (.slice none 0 0)).run Tryd.prog w = .ok (.bool false) w := fun w => by kernel_rfl
    have hw : (w.alloc (.cells #[] 27)).ownsRow w.heap.size 27 6 (.slice (some ⟨w.heap.size, 0, none⟩) 0 0) 0 [] := ⟨rfl, .inr ⟨w.heap.size, 0, #[], rfl, Nat.le_refl _, heap_alloc_new _ _, Nat.le_refl _, by decide, rfl, rfl⟩⟩
    have hs := hsrc _ (Gr.alloc w (.cells #[] 27))
    have hg := Gr.alloc w (.cells #[] 27)
    have hmx : 0 + n ≤ maxLen := by unfold maxLen; omega
    have hby : (0 + n) * 88 ≤ 140737488355328 := by omega
    clear hsrc h hl
    go_enter Tryd.func39, Tryd.ntmps39
    go_wp2_with (at_builtin; refine wpList_append_src rfl (.tmp 5) (.tmp 6) 24 rfl w.heap.size 27 i _ 6 88 und24 i1 i2 i3 i4 rfl (by decide) _ 0 [] hw rfl F (some a) n lc rfl hfl hs hof hmx hby hg.size ?_; intro v' w' k1 k2 k3)
    go_ret
    rw [Nat.zero_add, List.nil_append] at k1
    obtain ⟨ad, c, rfl⟩ := own_grown k1
    refine ⟨ad, c, rfl, k1, k2.os.trans hg.os, k2.tape.trans hg.tape, k2.output.trans hg.output, Nat.le_trans hg.size k2.size, fun k hk => (k2.block k (Nat.lt_of_lt_of_le hk hg.size) (fun e => ?_)).trans (hg.block k hk)⟩
    have : k = w.heap.size := by simpa [Value.ownBlock] using e
    omega
end Go.Proofs.YtogippkapadolaaDoor

/- copied of the program: its regions (by gen_jscopy.py). -/
namespace Go.Proofs.YtogippkapadolaaDoor
open Go.RowKit

/-- Values and what they point to, of blocks from M on. -/
def cpF (M : Nat) (x : J) : Fact := ⟨fun v y => JAt y (fun k => M ≤ k) x v, fun h g => h.gr g⟩
theorem siz27 : (Tryd.prog.info? 27).map (·.size) = some 6 := by kernel_rfl
def q24_6 : Array Oper := #[{ dst := some 21, op := Op.fieldAddr 27 (Operand.tmp 1) 4, type := 0, pos := "value.go:60", after := #[], guard := none }, { dst := some 22, op := Op.load 24 (Operand.tmp 21), type := 24, pos := "value.go:60", after := #[{ on := 0, ground := Ground.data }], guard := none }, { dst := some 23, op := Op.move (Operand.tmp 3), type := 3, pos := "value.go:60", after := #[], guard := none }, { dst := some 24, op := Op.load 27 (Operand.tmp 4), type := 27, pos := "value.go:60", after := #[], guard := none }, { dst := some 25, op := Op.call { callee := Callee.value (Operand.func 24), args := #[Operand.tmp 24], argTypes := #[27] }, type := 27, pos := "value.go:60", after := #[{ on := 3, ground := Ground.data }], guard := none }, { dst := some 26, op := Op.indexAddr 24 (Operand.tmp 22) (Operand.tmp 23), type := 0, pos := "value.go:60", after := #[{ on := 1, ground := Ground.data }, { on := 2, ground := Ground.data }, { on := 0, ground := Ground.phase }, { on := 1, ground := Ground.phase }, { on := 2, ground := Ground.phase }, { on := 3, ground := Ground.phase }, { on := 4, ground := Ground.phase }], guard := none }, { dst := none, op := Op.store 27 (Operand.tmp 26) (Operand.tmp 25), type := 0, pos := "value.go:60", after := #[{ on := 5, ground := Ground.data }, { on := 4, ground := Ground.data }, { on := 4, ground := Ground.chain }, { on := 0, ground := Ground.phase }, { on := 1, ground := Ground.phase }, { on := 2, ground := Ground.phase }, { on := 3, ground := Ground.phase }, { on := 4, ground := Ground.phase }], guard := none }]
set_option maxRecDepth 100000 in
theorem r24_6 {Q : Exit → Act → World → Prop} {a0 : Act} {w : World} (hz : a0.tmps.size = 29) {N g q n cap M i : Nat} {x : J} {c bx row : List Value} (hbox : Holds w N bx 27) (hb4 : bx[4]? = some (.slice (some ⟨g, 0, none⟩) n cap)) (hq : Holds w q c 27) (h6 : c.length = 6) (hrow : Holds w g row 27) (hlen : i * 6 + 6 ≤ row.length) (hi : i < n) (hc : ∀ y, Gr w y → Calls Tryd.prog 24 #[.agg c.toArray] y fun e z => ∃ u, e = .returned u ∧ Gr y z ∧ (cpF M x).holds u z) (hMg : ∀ k, M ≤ k → k ≠ g) (e1 : a0.eval (.tmp 1) = .pointer (some ⟨N, 0, none⟩)) (e3 : a0.eval (.tmp 3) = .int .i64 (i : Int)) (e4 : a0.eval (.tmp 4) = .pointer (some ⟨q, 0, none⟩)) (hend : ∀ ac wz d, After [21, 22, 23, 24, 25, 26] a0 ac → JAt wz (fun k => M ≤ k) x (.agg d.toArray) → d.length = 6 → (∀ v ∈ d, v.oneCell' = true) → (∃ wy, Gr w wy ∧ Turned g wy wz (overV row (i * 6) d) 27) → Q .normal ac wz) : (Code.region 6 q24_6 true).wp Tryd.prog Q a0 w := by
  refine drawn_tail (by kernel_rfl) (by kernel_rfl) 6 (by decide) (by kernel_rfl) (by kernel_rfl) [21, 22, 23, 24, 25, 26] (fun | 21 => .val (.pointer (some ⟨N, 4, none⟩)) | 22 => .val (.slice (some ⟨g, 0, none⟩) n cap) | 23 => .val (.int .i64 (i : Int)) | 24 => .val (.agg c.toArray) | 25 => cpF M x | 26 => .val (.pointer (some ⟨g, i * 6, none⟩)) | _ => .any) (by kernel_rfl) (List.forall_mem_cons.2 ⟨?s0, List.forall_mem_cons.2 ⟨?s1, List.forall_mem_cons.2 ⟨?s2, List.forall_mem_cons.2 ⟨?s3, List.forall_mem_cons.2 ⟨?s4, List.forall_mem_cons.2 ⟨?s5, fun o ho => nomatch ho⟩⟩⟩⟩⟩⟩) ?e
  case s0 => exact sa_fa 27 (.tmp 1) 4 21 (.pointer (some ⟨N, 0, none⟩)) (.pointer (some ⟨N, 4, none⟩)) rfl rfl rfl (.old 1 _ (by decide) e1) (by intro w; kernel_rfl) rfl
  case s1 => exact sa_loadc 24 (.tmp 21) 22 (N) (4) (.slice (some ⟨g, 0, none⟩) n cap) rfl rfl rfl (by intro w; kernel_rfl) (.new 21 (by kernel_rfl) (by rw [hz]; decide)) (fun y hy => (hbox.gr hy).at 4 _ hb4) rfl
  case s2 => exact sa_move (.tmp 3) 23 (.val (.int .i64 (i : Int))) (.inl rfl) rfl rfl (.old 3 _ (by decide) e3) rfl
  case s3 => exact sa_row 27 (.tmp 4) 24 q (0) 6 _ c rfl rfl rfl Tryd.underlying27 rfl siz27 h6 (.old 4 _ (by decide) e4) (fun y hy => range_of (hq.gr hy)) rfl
  case s4 => exact sa_call1 24 (.tmp 24) _ 25 (.val (.agg c.toArray)) rfl rfl rfl (.new 24 (by kernel_rfl) (by rw [hz]; decide)) (enters_of Tryd.func24 (by kernel_rfl) rfl) (fun v0 y hgy q0 => by rw [show v0 = _ from q0]; exact hc y hgy)
  case s5 => exact sa_ixa 24 (.tmp 22) (.tmp 23) 26 (.slice (some ⟨g, 0, none⟩) n cap) (.int .i64 (i : Int)) (.pointer (some ⟨g, i * 6, none⟩)) rfl rfl rfl (.new 22 (by kernel_rfl) (by rw [hz]; decide)) (.new 23 (by kernel_rfl) (by rw [hz]; decide)) (by intro y; have := (ix_slice (P := Tryd.prog) (b := g) (o := 0) und24 size27 hi rfl : ∀ w, (Instr.indexAt 24 (.slice (some ⟨g, 0, none⟩) n cap) (.int .i64 (i : Int))).run Tryd.prog w = _); simpa using this y) rfl
  case e =>
  intro ac wz hA hgr hv
  have o25 := hv 25 (by kernel_rfl) (by rw [hz]; decide)
  have o26 : ac.eval (.tmp 26) = .pointer (some ⟨g, i * 6, none⟩) := hv 26 (by kernel_rfl) (by rw [hz]; decide)
  obtain ⟨d, hd, hd6, hd1⟩ := jat_cells (show JAt wz (fun k => M ≤ k) x (ac.eval (.tmp 25)) from o25)
  have hJ : JAt wz (fun k => M ≤ k) x (.agg d.toArray) := hd ▸ o25
  refine wpList_store_part rfl 27 (.tmp 26) (.tmp 25) rfl g (i * 6) o26 d hd 27 row (hrow.gr hgr) (by rw [hd6]; kernel_rfl) (by rw [hd6]; exact hlen) hd1 fun w2 hT => wl_end ?_
  exact hend _ w2 d hA (hJ.mono fun k h1 h2 => ⟨h1, hT.others k (hMg k h1)⟩) hd6 hd1 ⟨wz, hgr, hT⟩
end Go.Proofs.YtogippkapadolaaDoor

/- The parser in plain words: it goes on, and not past the end. -/
namespace Go.Proofs.YtogippkapadolaaDoor
open Go.RowKit

theorem eachL_le {σ : Type} {L : List UInt8} {step : σ → Nat → Res σ} (hg : Goes L step) : ∀ (f q : Nat) (x y : σ) (q' : Nat), q ≤ L.length → eachL L step f x q = .ok y q' → q ≤ q' ∧ q' ≤ L.length
  | 0, q, x, y, q', h, e => by
    have e : (Res.ok x (nextP L q) : Res σ) = .ok y q' := e
    cases e
    exact ⟨next_ge h, next_le h⟩
  | f + 1, q, x, y, q', h, e => by
    have h1 := next_ge h
    have h2 := next_le h
    rw [eachL] at e
    split at e
    · rename_i h44
      have hl : nextP L q < L.length := here_lt (by rw [h44]; decide)
      cases hs : step x (nextP L q + 1) with
      | bad a b => rw [hs] at e; cases e
      | ok y2 q2 =>
        rw [hs] at e
        have h3 := hg _ _ _ _ (by omega) hs
        have := eachL_le hg f q2 y2 y q' h3.2 e
        omega
    · cases e
      exact ⟨h1, h2⟩
theorem eachP_le {σ : Type} {L : List UInt8} {step : σ → Nat → Res σ} {c : UInt8} (hg : Goes L step) (hc : c ≠ 0) {p q : Nat} {x y : σ} (hp : p < L.length) (h : eachP L c step x p = .ok y q) : p < q ∧ q ≤ L.length := by
  have h1 := next_ge (show p + 1 ≤ L.length from hp)
  have h2 := next_le (show p + 1 ≤ L.length from hp)
  unfold eachP at h
  have key : ∀ r : Res σ, (∀ y q, r = .ok y q → p + 1 ≤ q ∧ q ≤ L.length) → (r.bind fun y q => (passP L [c] q).bind fun _ q' => .ok y q') = .ok y q → p < q ∧ q ≤ L.length := fun r hr hb => by
    cases r with
    | bad a b => cases hb
    | ok y1 q1 =>
      have h3 := hr y1 q1 rfl
      have hb : ((passP L [c] q1).bind fun _ q' => (Res.ok y1 q' : Res σ)) = .ok y q := hb
      cases hps : passP L [c] q1 with
      | bad a b => rw [hps] at hb; cases hb
      | ok _ q2 =>
        rw [hps] at hb
        have hb : (Res.ok y1 q2 : Res σ) = .ok y q := hb
        cases hb
        have h4 := passP_le (W := [c]) (by intro d hd; simp at hd; rw [hd]; exact hc) hps
        have h5 := h4.2 h3.2
        have h6 := h4.1
        simp at h6
        omega
  refine key _ (fun y1 q1 e => ?_) h
  split at e
  · cases e; exact ⟨h1, h2⟩
  · cases hs : step x (nextP L (p + 1)) with
    | bad a b => rw [hs] at e; cases e
    | ok y2 q2 =>
      rw [hs] at e
      have h3 := hg _ _ _ _ h2 hs
      have := eachL_le hg _ q2 y2 y1 q1 h3.2 e
      omega
theorem digsP_le {L : List UInt8} : ∀ (f p : Nat), p ≤ L.length → p ≤ digsP L f p ∧ digsP L f p ≤ L.length
  | 0, p, h => ⟨Nat.le_refl _, h⟩
  | f + 1, p, h => by
    rw [digsP]
    split
    · rename_i hd
      have hl : p < L.length := here_lt (fun e => by rw [e] at hd; cases hd)
      have := digsP_le f (p + 1) hl
      omega
    · exact ⟨Nat.le_refl _, h⟩
theorem numP_le {L : List UInt8} {p q : Nat} {n : Int} (h : numP L p = .ok n q) : p < q ∧ q ≤ L.length := by
  unfold numP at h
  split at h
  · rename_i hd
    have hm : p ≤ minusP L p := by unfold minusP; split <;> omega
    have hl : minusP L p < L.length := here_lt (fun e => by rw [e] at hd; cases hd)
    have he : minusP L p < numEnd L p ∧ numEnd L p ≤ L.length := by
      unfold numEnd
      split
      · omega
      · have e1 : digsP L (L.length - minusP L p) (minusP L p) = digsP L (L.length - (minusP L p + 1)) (minusP L p + 1) := by
          obtain ⟨f, hf⟩ : ∃ f, L.length - minusP L p = f + 1 := ⟨L.length - minusP L p - 1, by omega⟩
          rw [hf, show L.length - (minusP L p + 1) = f by omega, digsP, if_pos hd]
        rw [e1]
        have := digsP_le (L := L) (L.length - (minusP L p + 1)) (minusP L p + 1) hl
        omega
    split at h
    · cases h; omega
    · cases h
  · cases h
end Go.Proofs.YtogippkapadolaaDoor
