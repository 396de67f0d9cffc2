/- The function of the statement ShaJoins, called with whatever sums, answers true; nothing that was there is turned. -/
import Derived.Test.YtccebaleaipilaaDoorJoinB
namespace Go.Proofs.YtccebaleaipilaaDoor
open Go.RowKit

def IsNe (o : Oper) : Prop := ∃ x y yt, o.op = .binOp .neq 23 x y yt
theorem isNe_mk (dst : Option Tmp) (x y : Operand) (yt t : TypeId) (pos : String) (af : Array Edge) (gd : Option (Nat × Bool)) : IsNe { dst := dst, op := .binOp .neq 23 x y yt, type := t, pos := pos, after := af, guard := gd } = True := eq_true ⟨x, y, yt, rfl⟩
theorem neX_mk (dst : Option Tmp) (x y : Operand) (yt t : TypeId) (pos : String) (af : Array Edge) (gd : Option (Nat × Bool)) : eqX { dst := dst, op := .binOp .neq 23 x y yt, type := t, pos := pos, after := af, guard := gd } = x := rfl
theorem neY_mk (dst : Option Tmp) (x y : Operand) (yt t : TypeId) (pos : String) (af : Array Edge) (gd : Option (Nat × Bool)) : eqY { dst := dst, op := .binOp .neq 23 x y yt, type := t, pos := pos, after := af, guard := gd } = y := rfl
theorem rule_ner (o : Oper) (a : Act) (w : World) (K : Act → World → Prop) (Q : Exit → Act → World → Prop) (ho : IsNe o) (h : Same32 (a.eval (eqX o)) (a.eval (eqY o))) :
    Oper.wp Tryd.prog o a w K Q = K (a.put o.dst (.bool false)) w := by
  obtain ⟨dst, op, t, pos, af, gd⟩ := o
  obtain ⟨x, y, yt, hx⟩ := ho
  dsimp only at hx
  subst hx
  exact rule_neq dst x y yt t pos af gd a w K Q h
attribute [local go_sem ↓] rule_eql rule_neq rule23 rule23r rule_eqr rule_ner
attribute [local go_sem] isLd_mk ldX_mk isEq_mk eqX_mk eqY_mk isNe_mk neX_mk neY_mk

theorem full23 : (Tryd.prog.info? 23).map (fun i => (i.zero, i.size, i.bytes)) = some (some (.agg ((List.replicate 32 (0 : UInt8)).map byteV).toArray), 32, 32) := by kernel_rfl
theorem inf23 : ∃ i, Tryd.prog.info? 23 = some i ∧ i.zero = some (.agg ((List.replicate 32 (0 : UInt8)).map byteV).toArray) ∧ i.size = 32 ∧ i.bytes = 32 := by
  have := full23
  cases h : Tryd.prog.info? 23 with
  | none => simp [h] at this
  | some i =>
    rw [h] at this
    simp only [Option.map_some, Option.some.injEq, Prod.mk.injEq] at this
    exact ⟨i, rfl, this.1, this.2.1, this.2.2⟩
theorem lies_flat {w : World} {g : Nat} : ∀ (ls : List (List UInt8)) (o : Nat), (∀ l ∈ ls, l.length = 32) → Lies w g o ls → w.rangeAt g o (ls.flatten.map byteV)
  | [], _, _, _ => fun j v hv => by simp at hv
  | a :: r, o, h, hl => fun j v hv => by
    have ha : a.length = 32 := h a (by simp)
    rw [List.flatten_cons, List.map_append] at hv
    by_cases hj : j < 32
    · rw [List.getElem?_append_left (by simp [ha, hj])] at hv
      have := hl 0 a rfl j v hv
      rwa [Nat.zero_mul, Nat.add_zero] at this
    · rw [List.getElem?_append_right (by simp [ha]; omega), List.length_map, ha] at hv
      have := lies_flat r (o + 32) (fun l hl => h l (by simp [hl])) (fun i l hi => by
        have := hl (i + 1) l (by simpa using hi)
        rwa [show o + (i + 1) * 32 = o + 32 + i * 32 by omega] at this) (j - 32) v hv
      rwa [show o + 32 + (j - 32) = o + j by omega] at this
theorem flat_lies {w : World} {g : Nat} : ∀ (ls : List (List UInt8)) (o : Nat), (∀ l ∈ ls, l.length = 32) → w.rangeAt g o (ls.flatten.map byteV) → Lies w g o ls
  | [], _, _, _ => fun i l hi => by simp at hi
  | a :: r, o, h, hf => fun i l hi => by
    have ha : a.length = 32 := h a (by simp)
    rw [List.flatten_cons, List.map_append] at hf
    cases i with
    | zero =>
      simp at hi
      subst hi
      intro j v hv
      rw [Nat.zero_mul, Nat.add_zero]
      exact hf j v (by rw [List.getElem?_append_left (List.getElem?_eq_some_iff.1 hv).1]; exact hv)
    | succ i =>
      have := flat_lies r (o + 32) (fun l hl => h l (by simp [hl])) (fun j v hv => by
        have := hf (j + 32) v (by rw [List.getElem?_append_right (by simp [ha]), List.length_map, ha, Nat.add_sub_cancel]; exact hv)
        rwa [show o + (j + 32) = o + 32 + j by omega] at this) i l (by simpa using hi)
      rwa [show o + 32 + i * 32 = o + (i + 1) * 32 by omega] at this
theorem owned_range {w : World} {base e k g cap : Nat} {xs : List Value} (h : w.ownsRow base e 32 (.slice (some ⟨g, 0, none⟩) k cap) k xs) : base ≤ g ∧ g < w.heap.size ∧ w.rangeAt g 0 xs := by
  obtain ⟨hx, ⟨h0, _⟩ | ⟨g', cap', cur, he, hg, hc, _, _, _, ht⟩⟩ := h
  · cases h0
  · cases he
    refine ⟨hg, ?_, fun j v hv => ?_⟩
    · rcases Nat.lt_or_ge g w.heap.size with q | q
      · exact q
      · simp [Array.getElem?_eq_none q] at hc
    · have hj : j < k * 32 := by have := (List.getElem?_eq_some_iff.1 hv).1; omega
      rw [Nat.zero_add, cell_of_row w g j cur e (0, 0) hc, ← Array.getElem?_toList]
      rw [← ht, List.getElem?_take_of_lt hj] at hv
      exact hv

theorem addr_plus (b o i : Nat) : (⟨b, o, none⟩ : Addr).add i = ⟨b, o + i, none⟩ := by simp [Addr.add]

set_option maxHeartbeats 8000000 in
set_option maxRecDepth 100000 in
theorem shaJoins_few (ls ms : List (List UInt8)) (hle : ¬ 60 < ls.length) (g o cap : Nat) (hms : ms.length = ls.length) (h32 : ∀ l ∈ ms, l.length = 32) (hpos : 0 < ls.length) (w : World) (hg : g < w.heap.size) (hl : Lies w g o ms) (hL : Laid w) :
    Calls Tryd.prog 5 #[.slice (some ⟨g, o, none⟩) ls.length cap] w fun e w' => e = .returned (.bool true) ∧ Below w.heap.size w w' := by
  have hn2 := hL.two
  have HL : Hid (Lies w g o ms) := hl
  have H32 : Hid (∀ l ∈ ms, l.length = 32) := h32
  have HF : Hid (ms.flatten.length = ls.length * 32) := by
    have := flat_len ms h32
    rw [hms] at this
    show _ = _
    omega
  clear hl h32
  obtain ⟨i23, hi23, hz23, hs23, hb23⟩ := inf23
  have F23 : Hid (Tryd.prog.info? 23 = some i23) := hi23
  have FZ : Hid (i23.zero = some (.agg ((List.replicate 32 (0 : UInt8)).map byteV).toArray)) := hz23
  clear hi23 hz23
  obtain ⟨q, hq, J15, J16⟩ : ∃ q : List UInt8, q.length = 32 ∧
      (∀ (g2 o2 cap2 : Nat) (W : World), g2 < W.heap.size → Lies W g2 o2 ms → Laid W → Calls Tryd.prog 15 #[.slice (some ⟨g2, o2, none⟩) ls.length cap2] W fun e w' => e = .returned (.agg (q.map byteV).toArray) ∧ Below W.heap.size W w') ∧
      (∀ (g2 o2 cap2 : Nat) (W : World), g2 < W.heap.size → Lies W g2 o2 ms → Calls Tryd.prog 16 #[.slice (some ⟨g2, o2, none⟩) ls.length cap2] W fun e w' => e = .returned (.agg (q.map byteV).toArray) ∧ Below W.heap.size W w') :=
    ⟨sumL (putN newL ms.flatten), sumL_length _ (putN_ok _ _ newL_ok), fun g2 o2 cap2 W h1 h2 h3 => by
      have := join_some ms H32.out (by omega) g2 o2 cap2 W h1 h2 h3
      rw [hms] at this; exact this, fun g2 o2 cap2 W h1 h2 => by
      have := rjoin_some ms H32.out (by omega) g2 o2 cap2 W h1 h2
      rw [hms, ← sum_ref] at this; exact this⟩
  have J15 : Hid _ := J15
  have J16 : Hid _ := J16
  have S0 := same32 q hq
  obtain ⟨n, hn⟩ : ∃ n, w.heap.size = n := ⟨_, rfl⟩
  rw [hn] at hn2 hg ⊢
  go_enter Tryd.func5, Tryd.ntmps5
  go_wp2_with (first
    | (go_at_call 7; refine (awake_any _ hL).mono ?_; rintro e w1 ⟨rfl, h1⟩; obtain ⟨c1, hc1⟩ : ∃ c1, w1.heap.size = c1 := ⟨_, rfl⟩; rw [hn] at h1; have hnc1 : n ≤ c1 := (by rw [← hc1]; have := h1.size; omega); have hnews : Hid (∀ (j : Nat) (u : Value), (ms.flatten.map byteV)[j]? = some u → w1.cell? ((⟨g, o, none⟩ : Addr).add j) = some u) := (fun j u hu => by rw [addr_plus]; exact lies_flat ms o H32.out (HL.out.below h1 hg) j u hu))
    | (at_builtin; refine wpList_append_lies _ rfl (.tmp 13) (.tmp 14) 34 rfl c1 23 i23 (.agg ((List.replicate 32 (0 : UInt8)).map byteV).toArray) 32 32 und34 F23.out FZ.out hs23 hb23 rfl (by omega) (.slice none 0 0) 0 [] rfl ⟨rfl, .inl ⟨rfl, rfl⟩⟩ ⟨g, o, none⟩ ls.length cap (ms.flatten.map byteV) rfl (by rw [List.length_map, HF.out]) hnews.out (byteV_one _) hpos (by unfold maxLen; omega) (by omega) (Nat.le_of_eq hc1.symm) c1 hc1 ?_; intro g2 cap2 w3 hown3 hgrow hat hlt3; obtain ⟨hbg, hg2, hr2⟩ := owned_range hown3; have b13 : Below c1 w1 w3 := below_grown (Below.refl _ _) hgrow (Nat.le_of_eq hc1.symm) (v := .slice none 0 0) (e := 23) (size := 32) (k := 0) (xs := []) ⟨rfl, .inl ⟨rfl, rfl⟩⟩; have bw3 : Below n w w3 := h1.trans (b13.mono hnc1); have HL3 : Hid (Lies w3 g2 0 ms) := flat_lies ms 0 H32.out hr2; clear hown3 hgrow hat hlt3 hr2 b13)
    | (go_at_call 15; refine (J15.out g2 0 cap2 w3 hg2 HL3.out (hL.below bw3 (by omega))).mono ?_; rintro e w4 ⟨rfl, h4⟩; obtain ⟨c, hc⟩ : ∃ c, w4.heap.size = c := ⟨_, rfl⟩)
    | (refine wpList_alloc_new 5 rfl rfl 23 rfl c hc _ (zero_of_info info23).1 ?_; intro w5 h5)
    | (refine wpList_store_all rfl 23 (.tmp 5) (.tmp 17) rfl c rfl (q.map byteV) rfl 23 _ h5.holds (by rw [(zero_of_info info23).2, List.length_map, hq]) (by rw [List.length_map, List.length_map, hq]; rfl) (byteV_one _) ?_; intro w6 h6))
  have hwc : w3.heap.size ≤ c := by rw [← hc]; exact h4.size
  have b36 : Below w3.heap.size w3 w6 := (h4.trans (h5.below.mono hwc)).trans (h6.below hwc)
  have b6 : Below n w w6 := bw3.trans (b36.mono (by have := bw3.size; omega))
  have HA6 : Hid (Lies w6 g2 0 ms) := HL3.out.below b36 hg2
  have HB6 : Hid (Lies w6 g o ms) := HL.out.below b6 hg
  have hq6 : Holds w6 c (q.map byteV) 23 := h6.holds
  have hg6 : g < w6.heap.size := by have := b6.size; omega
  clear h4 h5 h6 hc HL3 HL h1 hnews bw3 b36 hwc
  go_loopw [6] (fun cv wr => ∃ k : Nat, k ≤ ls.length ∧ cv = .int .i64 (k : Int) ∧ Still w6 wr) (fun cv _ => ls.length - (intOf cv).toNat)
  case atStart => exact ⟨0, by omega, rfl, Still.refl _⟩
  case round =>
    obtain ⟨k, hk, rfl, hst⟩ := hrel
    by_cases hlt : k < ls.length
    · obtain ⟨l, hlk⟩ : ∃ l, ms[k]'(by omega) = l := ⟨_, rfl⟩
      have hlk2 : ms[k]? = some l := by rw [List.getElem?_eq_getElem (by omega), hlk]
      have hl32 : l.length = 32 := H32.out l (hlk ▸ List.getElem_mem _)
      have sd : Still w6 wr.drew := hst.trans (Still.drewN wr 1)
      have ra : wr.drew.rangeAt g2 (0 + k * 32) (l.map byteV) := rangeAt_below (HA6.out k l hlk2) (sd.below (g2 + 1)) (by omega)
      have rb : wr.drew.rangeAt g (o + k * 32) (l.map byteV) := rangeAt_below (HB6.out k l hlk2) (sd.below (g + 1)) (by omega)
      have la : rowOf wr.drew (.pointer (some ⟨g2, k * 32, none⟩)) 32 = some (l.map byteV) := by
        have := rowOf_range ra
        rwa [List.length_map, hl32, Nat.zero_add] at this
      have lb : rowOf wr.drew (.pointer (some ⟨g, o + k * 32, none⟩)) 32 = some (l.map byteV) := by
        have := rowOf_range rb
        rwa [List.length_map, hl32] at this
      have S1 := same32 l hl32
      clear ra rb hlk hlk2
      have i0 : (0 : Int) ≤ (k : Int) := by omega
      have i1 : (k : Int) < ((ls.length : Nat) : Int) := by omega
      go_wp2_with fail
      go_region
      all_goals
        go_wp2_with fail
        exact ⟨⟨k + 1, by omega, by go_num, sd⟩, by simp [intOf]; omega⟩
    · have i1 : ¬ (k : Int) < ((ls.length : Nat) : Int) := by omega
      have sd : Still w6 wr.drew := hst.trans (Still.drewN wr 1)
      have bd : Below n w wr.drew := b6.trans (sd.below n)
      have hqd : Holds wr.drew c (q.map byteV) 23 := sd.holds hq6
      have ld := row_of hqd hq
      have HBd : Hid (Lies wr.drew g o ms) := HB6.out.below (sd.below (g + 1)) (by omega)
      have hgd : g < wr.drew.heap.size := by rw [sd.heap]; exact hg6
      go_wp2_with fail
      go_region_with (go_at_call 16; refine (J16.out g o cap wr.drew hgd HBd.out).mono ?_; rintro e w8 ⟨rfl, h8⟩; have hq8 := hqd.below h8 hqd.lt; have l8 := row_of hq8 hq; have b8 : Below n w w8 := bd.trans (h8.mono (by have := bd.size; omega)))
      all_goals
        go_wp2
        go_ret
        exact ⟨rfl, b8⟩

set_option maxHeartbeats 8000000 in
set_option maxRecDepth 100000 in
theorem shaJoins_many (ls ms : List (List UInt8)) (hgt : 60 < ls.length) (hgl : ls.length < 140737488355328) (g o cap : Nat) (hms : ms.length = 60) (h32 : ∀ l ∈ ms, l.length = 32) (hpos : 0 < 60) (hcap : 60 ≤ cap) (w : World) (hg : g < w.heap.size) (hl : Lies w g o ms) (hL : Laid w) :
    Calls Tryd.prog 5 #[.slice (some ⟨g, o, none⟩) ls.length cap] w fun e w' => e = .returned (.bool true) ∧ Below w.heap.size w w' := by
  have hn2 := hL.two
  have HL : Hid (Lies w g o ms) := hl
  have H32 : Hid (∀ l ∈ ms, l.length = 32) := h32
  have HF : Hid (ms.flatten.length = 60 * 32) := by
    have := flat_len ms h32
    rw [hms] at this
    show _ = _
    omega
  clear hl h32
  obtain ⟨i23, hi23, hz23, hs23, hb23⟩ := inf23
  have F23 : Hid (Tryd.prog.info? 23 = some i23) := hi23
  have FZ : Hid (i23.zero = some (.agg ((List.replicate 32 (0 : UInt8)).map byteV).toArray)) := hz23
  clear hi23 hz23
  obtain ⟨q, hq, J15, J16⟩ : ∃ q : List UInt8, q.length = 32 ∧
      (∀ (g2 o2 cap2 : Nat) (W : World), g2 < W.heap.size → Lies W g2 o2 ms → Laid W → Calls Tryd.prog 15 #[.slice (some ⟨g2, o2, none⟩) 60 cap2] W fun e w' => e = .returned (.agg (q.map byteV).toArray) ∧ Below W.heap.size W w') ∧
      (∀ (g2 o2 cap2 : Nat) (W : World), g2 < W.heap.size → Lies W g2 o2 ms → Calls Tryd.prog 16 #[.slice (some ⟨g2, o2, none⟩) 60 cap2] W fun e w' => e = .returned (.agg (q.map byteV).toArray) ∧ Below W.heap.size W w') :=
    ⟨sumL (putN newL ms.flatten), sumL_length _ (putN_ok _ _ newL_ok), fun g2 o2 cap2 W h1 h2 h3 => by
      have := join_some ms H32.out (by omega) g2 o2 cap2 W h1 h2 h3
      rw [hms] at this; exact this, fun g2 o2 cap2 W h1 h2 => by
      have := rjoin_some ms H32.out (by omega) g2 o2 cap2 W h1 h2
      rw [hms, ← sum_ref] at this; exact this⟩
  have J15 : Hid _ := J15
  have J16 : Hid _ := J16
  have S0 := same32 q hq
  obtain ⟨n, hn⟩ : ∃ n, w.heap.size = n := ⟨_, rfl⟩
  rw [hn] at hn2 hg ⊢
  go_enter Tryd.func5, Tryd.ntmps5
  go_wp2_with (first
    | (go_at_call 7; refine (awake_any _ hL).mono ?_; rintro e w1 ⟨rfl, h1⟩; obtain ⟨c1, hc1⟩ : ∃ c1, w1.heap.size = c1 := ⟨_, rfl⟩; rw [hn] at h1; have hnc1 : n ≤ c1 := (by rw [← hc1]; have := h1.size; omega); have hnews : Hid (∀ (j : Nat) (u : Value), (ms.flatten.map byteV)[j]? = some u → w1.cell? ((⟨g, o, none⟩ : Addr).add j) = some u) := (fun j u hu => by rw [addr_plus]; exact lies_flat ms o H32.out (HL.out.below h1 hg) j u hu))
    | (at_builtin; refine wpList_append_lies _ rfl (.tmp 13) (.tmp 14) 34 rfl c1 23 i23 (.agg ((List.replicate 32 (0 : UInt8)).map byteV).toArray) 32 32 und34 F23.out FZ.out hs23 hb23 rfl (by omega) (.slice none 0 0) 0 [] rfl ⟨rfl, .inl ⟨rfl, rfl⟩⟩ ⟨g, o, none⟩ 60 cap (ms.flatten.map byteV) rfl (by rw [List.length_map, HF.out]) hnews.out (byteV_one _) hpos (by unfold maxLen; omega) (by omega) (Nat.le_of_eq hc1.symm) c1 hc1 ?_; intro g2 cap2 w3 hown3 hgrow hat hlt3; obtain ⟨hbg, hg2, hr2⟩ := owned_range hown3; have b13 : Below c1 w1 w3 := below_grown (Below.refl _ _) hgrow (Nat.le_of_eq hc1.symm) (v := .slice none 0 0) (e := 23) (size := 32) (k := 0) (xs := []) ⟨rfl, .inl ⟨rfl, rfl⟩⟩; have bw3 : Below n w w3 := h1.trans (b13.mono hnc1); have HL3 : Hid (Lies w3 g2 0 ms) := flat_lies ms 0 H32.out hr2; clear hown3 hgrow hat hlt3 hr2 b13)
    | (go_at_call 15; refine (J15.out g2 0 cap2 w3 hg2 HL3.out (hL.below bw3 (by omega))).mono ?_; rintro e w4 ⟨rfl, h4⟩; obtain ⟨c, hc⟩ : ∃ c, w4.heap.size = c := ⟨_, rfl⟩)
    | (refine wpList_alloc_new 5 rfl rfl 23 rfl c hc _ (zero_of_info info23).1 ?_; intro w5 h5)
    | (refine wpList_store_all rfl 23 (.tmp 5) (.tmp 17) rfl c rfl (q.map byteV) rfl 23 _ h5.holds (by rw [(zero_of_info info23).2, List.length_map, hq]) (by rw [List.length_map, List.length_map, hq]; rfl) (byteV_one _) ?_; intro w6 h6))
  have hwc : w3.heap.size ≤ c := by rw [← hc]; exact h4.size
  have b36 : Below w3.heap.size w3 w6 := (h4.trans (h5.below.mono hwc)).trans (h6.below hwc)
  have b6 : Below n w w6 := bw3.trans (b36.mono (by have := bw3.size; omega))
  have HA6 : Hid (Lies w6 g2 0 ms) := HL3.out.below b36 hg2
  have HB6 : Hid (Lies w6 g o ms) := HL.out.below b6 hg
  have hq6 : Holds w6 c (q.map byteV) 23 := h6.holds
  have hg6 : g < w6.heap.size := by have := b6.size; omega
  clear h4 h5 h6 hc HL3 HL h1 hnews bw3 b36 hwc
  go_loopw [6] (fun cv wr => ∃ k : Nat, k ≤ 60 ∧ cv = .int .i64 (k : Int) ∧ Still w6 wr) (fun cv _ => 60 - (intOf cv).toNat)
  case atStart => exact ⟨0, by omega, rfl, Still.refl _⟩
  case round =>
    obtain ⟨k, hk, rfl, hst⟩ := hrel
    by_cases hlt : k < 60
    · obtain ⟨l, hlk⟩ : ∃ l, ms[k]'(by omega) = l := ⟨_, rfl⟩
      have hlk2 : ms[k]? = some l := by rw [List.getElem?_eq_getElem (by omega), hlk]
      have hl32 : l.length = 32 := H32.out l (hlk ▸ List.getElem_mem _)
      have sd : Still w6 wr.drew := hst.trans (Still.drewN wr 1)
      have ra : wr.drew.rangeAt g2 (0 + k * 32) (l.map byteV) := rangeAt_below (HA6.out k l hlk2) (sd.below (g2 + 1)) (by omega)
      have rb : wr.drew.rangeAt g (o + k * 32) (l.map byteV) := rangeAt_below (HB6.out k l hlk2) (sd.below (g + 1)) (by omega)
      have la : rowOf wr.drew (.pointer (some ⟨g2, k * 32, none⟩)) 32 = some (l.map byteV) := by
        have := rowOf_range ra
        rwa [List.length_map, hl32, Nat.zero_add] at this
      have lb : rowOf wr.drew (.pointer (some ⟨g, o + k * 32, none⟩)) 32 = some (l.map byteV) := by
        have := rowOf_range rb
        rwa [List.length_map, hl32] at this
      have S1 := same32 l hl32
      clear ra rb hlk hlk2
      have i0 : (0 : Int) ≤ (k : Int) := by omega
      have i1 : (k : Int) < ((60 : Nat) : Int) := by omega
      go_wp2_with fail
      go_region
      all_goals
        go_wp2_with fail
        exact ⟨⟨k + 1, by omega, by go_num, sd⟩, by simp [intOf]; omega⟩
    · have i1 : ¬ (k : Int) < ((60 : Nat) : Int) := by omega
      have sd : Still w6 wr.drew := hst.trans (Still.drewN wr 1)
      have bd : Below n w wr.drew := b6.trans (sd.below n)
      have hqd : Holds wr.drew c (q.map byteV) 23 := sd.holds hq6
      have ld := row_of hqd hq
      have HBd : Hid (Lies wr.drew g o ms) := HB6.out.below (sd.below (g + 1)) (by omega)
      have hgd : g < wr.drew.heap.size := by rw [sd.heap]; exact hg6
      go_wp2_with fail
      go_region_with (go_at_call 16; refine (J16.out g o cap wr.drew hgd HBd.out).mono ?_; rintro e w8 ⟨rfl, h8⟩; have hq8 := hqd.below h8 hqd.lt; have l8 := row_of hq8 hq; have b8 : Below n w w8 := bd.trans (h8.mono (by have := bd.size; omega)))
      all_goals
        go_wp2
        go_ret
        exact ⟨rfl, b8⟩

end Go.Proofs.YtccebaleaipilaaDoor
