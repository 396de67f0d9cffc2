/- The function of the statement ShaParts, called with whatever parts, answers true; nothing that was there is turned. -/
import Derived.Test.YtccebaleaipilaaDoorNil
import Derived.Test.YtccebaleaipilaaDoorRefD
namespace Go.Proofs.YtccebaleaipilaaDoor
open Go.RowKit

theorem rule23 (dst : Option Tmp) (x : Operand) (t : TypeId) (pos : String) (af : Array Edge) (gd : Option (Nat × Bool)) (a : Act) (w : World) (K : Act → World → Prop) (Q : Exit → Act → World → Prop) (h : (rowOf w (a.eval x) 32).isSome = true) :
    Oper.wp Tryd.prog { dst := dst, op := .load 23 x, type := t, pos := pos, after := af, guard := gd } a w K Q = K (a.put dst (.agg ((rowOf w (a.eval x) 32).getD []).toArray)) w :=
  wp_load_rule und23 (zero_of_info info23).2 dst x t pos af gd a w K Q h
/- The same rules where the operation is not yet written out: inside a region that draws. -/
def IsLd (o : Oper) : Prop := ∃ x, o.op = .load 23 x
def ldX (o : Oper) : Operand := match o.op with | .load _ x => x | _ => .tmp 0
theorem isLd_mk (dst : Option Tmp) (x : Operand) (t : TypeId) (pos : String) (af : Array Edge) (gd : Option (Nat × Bool)) : IsLd { dst := dst, op := .load 23 x, type := t, pos := pos, after := af, guard := gd } = True := eq_true ⟨x, rfl⟩
theorem ldX_mk (dst : Option Tmp) (x : Operand) (t : TypeId) (pos : String) (af : Array Edge) (gd : Option (Nat × Bool)) : ldX { dst := dst, op := .load 23 x, type := t, pos := pos, after := af, guard := gd } = x := rfl
theorem rule23r (o : Oper) (a : Act) (w : World) (K : Act → World → Prop) (Q : Exit → Act → World → Prop) (ho : IsLd o) (h : (rowOf w (a.eval (ldX o)) 32).isSome = true) :
    Oper.wp Tryd.prog o a w K Q = K (a.put o.dst (.agg ((rowOf w (a.eval (ldX o)) 32).getD []).toArray)) w := by
  obtain ⟨dst, op, t, pos, af, gd⟩ := o
  obtain ⟨x, hx⟩ := ho
  dsimp only at hx
  subst hx
  exact rule23 dst x t pos af gd a w K Q h
def IsEq (o : Oper) : Prop := ∃ x y yt, o.op = .binOp .eql 23 x y yt
def eqX (o : Oper) : Operand := match o.op with | .binOp _ _ x _ _ => x | _ => .tmp 0
def eqY (o : Oper) : Operand := match o.op with | .binOp _ _ _ y _ => y | _ => .tmp 0
theorem isEq_mk (dst : Option Tmp) (x y : Operand) (yt t : TypeId) (pos : String) (af : Array Edge) (gd : Option (Nat × Bool)) : IsEq { dst := dst, op := .binOp .eql 23 x y yt, type := t, pos := pos, after := af, guard := gd } = True := eq_true ⟨x, y, yt, rfl⟩
theorem eqX_mk (dst : Option Tmp) (x y : Operand) (yt t : TypeId) (pos : String) (af : Array Edge) (gd : Option (Nat × Bool)) : eqX { dst := dst, op := .binOp .eql 23 x y yt, type := t, pos := pos, after := af, guard := gd } = x := rfl
theorem eqY_mk (dst : Option Tmp) (x y : Operand) (yt t : TypeId) (pos : String) (af : Array Edge) (gd : Option (Nat × Bool)) : eqY { dst := dst, op := .binOp .eql 23 x y yt, type := t, pos := pos, after := af, guard := gd } = y := rfl
theorem rule_eqr (o : Oper) (a : Act) (w : World) (K : Act → World → Prop) (Q : Exit → Act → World → Prop) (ho : IsEq o) (h : Same32 (a.eval (eqX o)) (a.eval (eqY o))) :
    Oper.wp Tryd.prog o a w K Q = K (a.put o.dst (.bool true)) w := by
  obtain ⟨dst, op, t, pos, af, gd⟩ := o
  obtain ⟨x, y, yt, hx⟩ := ho
  dsimp only at hx
  subst hx
  exact rule_eql dst x y yt t pos af gd a w K Q h
attribute [local go_sem ↓] rule_eql rule_neq rule23 rule23r rule_eqr
attribute [local go_sem] isLd_mk ldX_mk isEq_mk eqX_mk eqY_mk

theorem und28 : Tryd.prog.underlying 28 = some (.slice 9) := by kernel_rfl
theorem full9 : (Tryd.prog.info? 9).map (fun i => (i.zero, i.size, i.bytes)) = some (some (.string ⟨#[]⟩), 1, 16) := by kernel_rfl
theorem inf9 : ∃ i, Tryd.prog.info? 9 = some i ∧ i.zero = some (.string ⟨#[]⟩) ∧ i.size = 1 ∧ i.bytes = 16 := by
  have := full9
  cases h : Tryd.prog.info? 9 with
  | none => simp [h] at this
  | some i =>
    simp [h] at this
    exact ⟨i, rfl, this.1, this.2.1, this.2.2⟩
theorem parts_owned {w : World} {base k : Nat} {v : Value} {ps : List ByteArray} (h : w.ownsRow base 9 1 v k (ps.map Value.string)) (hk : ps.length = k) : Parts w v ps := by
  obtain ⟨_, ⟨rfl, h0⟩ | ⟨g, cap, cur, rfl, hg, hc, _, _, _, ht⟩⟩ := h
  · exact .inl ⟨rfl, List.eq_nil_of_length_eq_zero (by omega)⟩
  · subst hk
    have hlt : g < w.heap.size := by
      rcases Nat.lt_or_ge g w.heap.size with q | q
      · exact q
      · simp [Array.getElem?_eq_none q] at hc
    refine .inr ⟨g, 0, cap, rfl, hlt, fun i p hi => ?_⟩
    have hi' : i < ps.length := (List.getElem?_eq_some_iff.1 hi).1
    rw [Nat.zero_add, cell_of_row w g i cur 9 (0, 0) hc, ← Array.getElem?_toList]
    have h3 : (cur.toList.take (ps.length * 1))[i]? = (ps.map Value.string)[i]? := by rw [ht]
    rw [List.getElem?_take_of_lt (by omega)] at h3
    rw [h3, List.getElem?_map, hi]; rfl
theorem owns_upd {w w' : World} {b base n size : Nat} {e : TypeId} {v : Value} {xs : List Value} (h : w.ownsRow base e size v n xs) (hu : Upd b w w') (hb : b < base) : w'.ownsRow base e size v n xs := by
  obtain ⟨h1, h0 | ⟨g, cap, cur, rfl, hg, hc, hr⟩⟩ := h
  · exact ⟨h1, .inl h0⟩
  · have hlt : g < w.heap.size := by
      rcases Nat.lt_or_ge g w.heap.size with q | q
      · exact q
      · simp [Array.getElem?_eq_none q] at hc
    exact ⟨h1, .inr ⟨g, cap, cur, rfl, hg, by rw [hu.block g hlt (by omega)]; exact hc, hr⟩⟩
/-- One sum, four ways. -/
theorem four_ways (ps : List ByteArray) (hlen : (bytes ps).length ≤ 5000) (hps : ps.length < 140737488355328) (al : ByteArray) (hal : al.data.toList = bytes ps) : ∃ q : List UInt8, q.length = 32 ∧
    (∀ b W, Laid W → Holds W b (hashV (putN newL (bytes ps))) 43 → Calls Tryd.prog 14 #[.pointer (some ⟨b, 0, none⟩)] W fun e w' => e = .returned (.agg (q.map byteV).toArray) ∧ Below W.heap.size W w') ∧
    (∀ v W, Parts W v ps → Laid W → Calls Tryd.prog 8 #[v] W fun e w' => e = .returned (.agg (q.map byteV).toArray) ∧ Below W.heap.size W w') ∧
    (∀ v W, Parts W v [al] → Laid W → Calls Tryd.prog 8 #[v] W fun e w' => e = .returned (.agg (q.map byteV).toArray) ∧ Below W.heap.size W w') ∧
    (∀ W, Calls Tryd.prog 9 #[.string al] W fun e w' => e = .returned (.agg (q.map byteV).toArray) ∧ Below W.heap.size W w') := by
  have e1 : bytes [al] = bytes ps := by simp [bytes] at hal ⊢; exact hal
  have e2 : al.size = (bytes ps).length := by rw [← hal]; rfl
  refine ⟨sumL (putN newL (bytes ps)), sumL_length _ (putN_ok _ _ newL_ok), fun b W hW hH => hsum_some _ (putN_ok _ _ newL_ok) (by rw [putN_len]; simp only [newL]; omega) b W hW hH, fun v W hp hW => sum_any ps (by omega) hps v W hp hW, fun v W hp hW => ?_, fun W => ?_⟩
  · have := sum_any [al] (by rw [e1]; omega) (by simp) v W hp hW
    rw [e1] at this; exact this
  · have := rsum_any al (by omega) W
    rw [hal, ← sum_ref] at this; exact this

set_option maxHeartbeats 8000000 in
set_option maxRecDepth 100000 in
theorem shaParts_some (ps : List ByteArray) (hl16 : ps.length * 16 ≤ 140737488355328) (hsz : ∀ s ∈ ps, s.size ≤ 140737488355328) (g0 o0 cap0 : Nat) (w : World) (hg0 : g0 < w.heap.size)
    (hp : ∀ (i : Nat) (p : ByteArray), ps[i]? = some p → w.cell? ⟨g0, o0 + i, none⟩ = some (.string p)) (hL : Laid w) :
    Calls Tryd.prog 4 #[.slice (some ⟨g0, o0, none⟩) ps.length cap0] w fun e w' => e = .returned (.bool true) ∧ Below w.heap.size w w' := by
  have hn2 := hL.two
  have HP : Hid (∀ (i : Nat) (p : ByteArray), ps[i]? = some p → w.cell? ⟨g0, o0 + i, none⟩ = some (.string p)) := hp
  have HSZ : Hid (∀ s ∈ ps, s.size ≤ 140737488355328) := hsz
  clear hp hsz
  obtain ⟨n, hn⟩ : ∃ n, w.heap.size = n := ⟨_, rfl⟩
  rw [hn] at hn2 hg0 ⊢
  obtain ⟨i9, hi9, hz9, hs9, hb9⟩ := inf9
  have F9 : Hid (Tryd.prog.info? 9 = some i9) := hi9
  clear hi9
  go_enter Tryd.func4, Tryd.ntmps4
  go_wp2_with (first
    | (go_at_call 7; refine (awake_any _ hL).mono ?_; rintro e w1 ⟨rfl, h1⟩; obtain ⟨b, hb⟩ : ∃ b, w1.heap.size = b := ⟨_, rfl⟩)
    | (go_at_call 12; refine (new_any _).mono ?_; rw [hb]; rintro e w2 ⟨rfl, h2⟩))
  rw [hn] at h1
  have hnb : n ≤ b := by rw [← hb]; have := h1.size; omega
  have b2 : Below n w w2 := h1.trans (h2.below.mono hnb)
  have hH2 := h2.holds
  clear h1 h2 hb
  go_loopw [4, 6, 7] (fun av kv c wr => ∃ (k : Nat) (al : ByteArray), k ≤ ps.length ∧ c = .int .i64 (k : Int) ∧ av = .string al ∧ al.data.toList = bytes (ps.take k) ∧ al.size ≤ 5000 ∧ wr.ownsRow (b + 1) 9 1 kv k ((ps.take k).map Value.string) ∧ Holds wr b (hashV (putN newL (bytes (ps.take k)))) 43 ∧ Below n w wr) (fun _ _ c _ => ps.length - (intOf c).toNat)
  case atStart => exact ⟨0, _, by omega, rfl, rfl, rfl, by decide, ⟨rfl, .inl ⟨rfl, rfl⟩⟩, hH2, b2⟩
  case round =>
    clear b2 hH2
    obtain ⟨k, al, hk, rfl, rfl, hal, has, hown, hH, hb⟩ := hrel
    have HAL : Hid (al.data.toList = bytes (ps.take k)) := hal
    clear hal
    by_cases hc : k < ps.length ∧ al.size + (ps.getD k ⟨#[]⟩).size ≤ 5000
    · obtain ⟨hlt, hle⟩ := hc
      obtain ⟨p, hpp⟩ : ∃ p, ps[k] = p := ⟨_, rfl⟩
      have Pk : Hid (ps[k] = p) := hpp
      clear hpp
      have hpk : ps[k]? = some p := by rw [List.getElem?_eq_getElem hlt, Pk.out]
      have hpd : ps.getD k ⟨#[]⟩ = p := by rw [List.getD_eq_getElem?_getD, hpk]; rfl
      rw [hpd] at hle
      have hcell : wr.cell? ⟨g0, o0 + k, none⟩ = some (.string p) := by rw [hb.cell (p := ⟨g0, o0 + k, none⟩) hg0]; exact HP.out k p hpk
      have hbt : bytes (ps.take (k + 1)) = bytes (ps.take k) ++ p.data.toList := by rw [bytes_take ps k hlt, Pk.out]
      have ha1 : (al ++ p).data.toList = bytes (ps.take (k + 1)) := by rw [hbt, ← HAL.out, ByteArray.data_append, Array.toList_append]
      have HA1 : Hid ((al ++ p).data.toList = bytes (ps.take (k + 1))) := ha1
      clear ha1
      have hsz1 : (al ++ p).size = al.size + p.size := ByteArray.size_append
      have hbl : (bytes (ps.take (k + 1))).length ≤ 5000 := by
        have e : (al ++ p).data.toList.length = (al ++ p).size := rfl
        rw [← HA1.out, e, hsz1]; exact hle
      have hkl : (ps.take (k + 1)).length = k + 1 := by simp; omega
      have hbl0 : (bytes (ps.take k)).length ≤ 5000 := by
        have e : al.data.toList.length = al.size := rfl
        rw [← HAL.out, e]; exact has
      have hwrite : Hid (∀ W g, Laid W → Holds W b (hashV (putN newL (bytes (ps.take k)))) 43 → g ≠ b → W.cell? ⟨g, 0, none⟩ = some (.string p) → Calls Tryd.prog 13 #[.pointer (some ⟨b, 0, none⟩), .slice (some ⟨g, 0, none⟩) 1 1] W fun e w' => e = .returned (.tuple #[]) ∧ Holds w' b (hashV (putN newL (bytes (ps.take (k + 1))))) 43 ∧ Upd b W w') := fun W g hW hh hg hc => by
        have := write_some (putN newL (bytes (ps.take k))) (putN_ok _ _ newL_ok) [p] (by
          have e : (bytes [p]).length = p.size := by simp [bytes]
          rw [putN_len, e]; simp only [newL]; omega) (by simp) b (by omega) g 0 1 hg W hW hh (fun i q hi => by
            cases i with
            | zero => simp at hi; subst hi; exact hc
            | succ i => simp at hi)
        rw [← putN_append, show bytes [p] = p.data.toList by simp [bytes], ← hbt] at this
        exact this
      obtain ⟨q, hq, D14, D8, E8, _⟩ := four_ways (ps.take (k + 1)) hbl (by rw [hkl]; omega) (al ++ p) HA1.out
      have D14 : Hid _ := D14
      have E8 : Hid _ := E8
      have S0 := same32 q hq
      clear D8 hbt hbl hbl0 hpd
      have hps1 : p.size ≤ 5000 := by omega
      have i0 : (0 : Int) ≤ (k : Int) := by omega
      have i1 : (k : Int) < (ps.length : Int) := by omega
      have i2 : (al.size : Int) + (p.size : Int) ≤ 5000 := by omega
      have hn1 : b + 1 ≤ (wr.alloc (.cells #[.string p] 9)).heap.size := by have := hH.lt; simp; omega
      by_cases j3 : (k : Int) % 3 = 0
      all_goals
        go_wp2_with (first
          | (at_builtin; refine wpList_append_lies _ rfl (.tmp 36) (.tmp 41) 28 rfl (b + 1) 9 i9 (.string ⟨#[]⟩) 1 16 und28 F9.out hz9 hs9 hb9 rfl (by omega) u6 k ((ps.take k).map Value.string) rfl (hown.alloc _) ⟨wr.heap.size, 0, none⟩ 1 1 [.string p] rfl rfl (World.news_of_block (heap_alloc_new wr _)) (by intro u hu; simp at hu; subst hu; rfl) (by omega) (by unfold maxLen; omega) (by omega) hn1 (wr.heap.size + 1) (by simp) ?_; intro g cap w3 hown3 hgrow hat hlt3; have b3 : Below (b + 1) wr w3 := below_grown ((Below.refl (b + 1) wr).alloc (by have := hH.lt; omega) _) hgrow hn1 (hown.alloc _); have hH3 := hH.below b3 (by omega); have hc3 : w3.cell? ⟨g0, o0 + k, none⟩ = some (.string p) := (by rw [b3.cell (p := ⟨g0, o0 + k, none⟩) (show g0 < b + 1 by omega)]; exact hcell); have bw3 : Below n w (w3.alloc (.cells #[.string p] 9)) := (hb.trans (b3.mono (by omega))).alloc (by have := hH3.lt; omega) _)
          | (go_at_call 13; refine (hwrite.out (w3.alloc (.cells #[.string p] 9)) w3.heap.size (hL.below bw3 (by omega)) (hH3.below ((Below.refl (b + 1) w3).alloc (by have := hH3.lt; omega) _) (by omega)) (by have := hH3.lt; omega) (by rw [cell_of_row _ _ 0 _ 9 (0, 0) (heap_alloc_new w3 _)]; rfl)).mono ?_; rintro e w4 ⟨rfl, hH4, u4⟩; have hown4 : w4.ownsRow (b + 1) 9 1 (.slice (some ⟨g, 0, none⟩) (k + 1) cap) (k + 1) ((ps.take (k + 1)).map Value.string) := (by rw [List.take_succ_eq_append_getElem hlt, Pk.out, List.map_append]; exact owns_upd (hown3.alloc _) u4 (by omega)); have b4 : Below n w w4 := bw3.trans (u4.below (by omega) (by have := hH3.lt; simp; omega)); have hL4 : Laid w4 := hL.below b4 (by omega); clear hown3 hgrow hat hlt3 b3 hH3 hc3 bw3 u4)
          | (go_at_call 14; refine (D14.out b w4 hL4 hH4).mono ?_; rintro e w5 ⟨rfl, h5⟩; have b5 : Below n w w5 := b4.trans (h5.mono (by have := b4.size; omega)); have bw5 : Below n w (w5.alloc (.cells #[.string (al ++ p)] 9)) := b5.alloc (by have := b5.size; omega) _; have hH5 := hH4.below h5 hH4.lt)
          | (go_at_call 8; refine (E8.out _ (w5.alloc (.cells #[.string (al ++ p)] 9)) (parts_new w5 [al ++ p] 1) (hL.below bw5 (by omega))).mono ?_; rintro e w6 ⟨rfl, h6⟩; have hH5' := hH5.below ((Below.refl (b + 1) w5).alloc (by have := hH5.lt; omega) (.cells #[.string (al ++ p)] 9)) (by omega); have hH6 := hH5'.below h6 hH5'.lt; have b6 : Below n w w6 := bw5.trans (h6.mono (by have := bw5.size; omega)))
          | (go_at_call 14; refine (D14.out b w6 (hL.below b6 (by omega)) hH6).mono ?_; rintro e w7 ⟨rfl, h7⟩; have hH7 := hH6.below h7 hH6.lt; have b7 : Below n w w7 := b6.trans (h7.mono (by have := b6.size; omega)))
          | (go_at_call 14; refine (D14.out b w7 (hL.below b7 (by omega)) hH7).mono ?_; rintro e w8 ⟨rfl, h8⟩; have hH8 := hH7.below h8 hH7.lt; have b8 : Below n w w8 := b7.trans (h8.mono (by have := b7.size; omega))))
      · have u48 : Upd b w4 w8 := (((Upd.ofBelow h5).trans (Upd.ofBelow (b := b) ((Below.refl w5.heap.size w5).alloc (Nat.le_refl _) (.cells #[.string (al ++ p)] 9)))).trans (Upd.ofBelow h6)).trans ((Upd.ofBelow h7).trans (Upd.ofBelow h8))
        exact ⟨⟨k + 1, al ++ p, by omega, by go_num, rfl, HA1.out, by rw [hsz1]; exact hle, owns_upd hown4 u48 (by omega), hH8, b8⟩, by simp [intOf]; omega⟩
      · exact ⟨⟨k + 1, al ++ p, by omega, by go_num, rfl, HA1.out, by rw [hsz1]; exact hle, hown4, hH4, b4⟩, by simp [intOf]; omega⟩
    · have hkl : (ps.take k).length = k := by simp; omega
      have hbl : (bytes (ps.take k)).length ≤ 5000 := by
        have e : al.data.toList.length = al.size := rfl
        rw [← HAL.out, e]; exact has
      obtain ⟨q, hq, D14, D8, _, D9⟩ := four_ways (ps.take k) hbl (by rw [hkl]; omega) al HAL.out
      have D14 : Hid _ := D14
      have D8 : Hid _ := D8
      have D9 : Hid _ := D9
      have S0 := same32 q hq
      have HO : Hid (wr.ownsRow (b + 1) 9 1 u6 k ((ps.take k).map Value.string)) := hown
      clear hown hbl
      have hcase : ps.length ≤ k ∨ (k < ps.length ∧ ∃ p, ps[k]? = some p ∧ ¬ al.size + p.size ≤ 5000 ∧ p.size ≤ 140737488355328) := by
        rcases Nat.lt_or_ge k ps.length with hlt | hge
        · refine .inr ⟨hlt, ps[k], List.getElem?_eq_getElem hlt, fun hle => hc ⟨hlt, ?_⟩, HSZ.out _ (List.getElem_mem hlt)⟩
          rw [List.getD_eq_getElem?_getD, List.getElem?_eq_getElem hlt]; exact hle
        · exact .inl hge
      clear hc
      have hcell : ∀ p, ps[k]? = some p → wr.cell? ⟨g0, o0 + k, none⟩ = some (.string p) := fun p hpk => by rw [hb.cell (p := ⟨g0, o0 + k, none⟩) hg0]; exact HP.out k p hpk
      have hnw : n ≤ wr.heap.size := by have := hb.size; omega
      rcases hcase with hge | ⟨hlt, p, hpk, hle, hps1⟩
      · have i1 : ¬ (k : Int) < (ps.length : Int) := by omega
        clear hcell
        go_wp2_with (first
          | (go_at_call 9; refine (D9.out _).mono ?_; rintro e w5 ⟨rfl, h5⟩; obtain ⟨c, hc⟩ : ∃ c, w5.heap.size = c := ⟨_, rfl⟩)
          | (refine wpList_alloc_new 8 rfl rfl 23 rfl c hc _ (zero_of_info info23).1 ?_; intro w6 h6)
          | (refine wpList_store_all rfl 23 (.tmp 8) (.tmp 67) rfl c rfl (q.map byteV) rfl 23 _ h6.holds (by rw [(zero_of_info info23).2, List.length_map, hq]) (by rw [List.length_map, List.length_map, hq]; rfl) (byteV_one _) ?_; intro w7 h7))
        have hwc : wr.heap.size ≤ c := by rw [← hc]; exact h5.size
        have r7 : Below wr.heap.size wr w7.drew := ((h5.trans (h6.below.mono hwc)).trans (h7.below hwc)).drew
        have HH7 : Hid (Holds w7.drew b (hashV (putN newL (bytes (ps.take k)))) 43) := hH.below r7 hH.lt
        have HO7 : Hid (w7.drew.ownsRow (b + 1) 9 1 u6 k ((ps.take k).map Value.string)) := owns_upd HO.out (Upd.ofBelow (b := b) r7) (by omega)
        have b7 : Below n w w7.drew := hb.trans (r7.mono hnw)
        have hq7 : Holds w7.drew c (q.map byteV) 23 := h7.holds.drew
        have l7 : rowOf w7.drew (.pointer (some ⟨c, 0, none⟩)) 32 = some (q.map byteV) := by
          have := rowOf_range (hq7.range 0 _ (fun j v hv => by rw [Nat.zero_add]; exact hv))
          rwa [List.length_map, hq] at this
        clear h5 h6 h7 hc HO hH hb r7
        go_region_with (first
          | (go_at_call 14; refine (D14.out b w7.drew (hL.below b7 (by omega)) HH7.out).mono ?_; rintro e w8 ⟨rfl, h8⟩; have hq8 := hq7.below h8 hq7.lt; have l8 : rowOf w8 (.pointer (some ⟨c, 0, none⟩)) 32 = some (q.map byteV) := (by have := rowOf_range (hq8.range 0 _ (fun j v hv => by rw [Nat.zero_add]; exact hv)); rwa [List.length_map, hq] at this); have b8 : Below n w w8 := b7.trans (h8.mono (by have := b7.size; omega)); have HP8 : Hid (Parts w8 u6 (ps.take k)) := parts_owned (owns_upd HO7.out (Upd.ofBelow (b := b) h8) (by omega)) hkl)
          | (go_at_call 8; refine (D8.out _ w8 HP8.out (hL.below b8 (by omega))).mono ?_; rintro e w9 ⟨rfl, h9⟩; have hq9 := hq8.below h9 hq8.lt; have l9 : rowOf w9 (.pointer (some ⟨c, 0, none⟩)) 32 = some (q.map byteV) := (by have := rowOf_range (hq9.range 0 _ (fun j v hv => by rw [Nat.zero_add]; exact hv)); rwa [List.length_map, hq] at this); have b9 : Below n w w9 := b8.trans (h9.mono (by have := b8.size; omega))))
        all_goals
          go_wp2
          go_ret
          exact ⟨rfl, b9⟩
      · have i0 : (0 : Int) ≤ (k : Int) := by omega
        have i1 : (k : Int) < (ps.length : Int) := by omega
        have i2 : ¬ (al.size : Int) + (p.size : Int) ≤ 5000 := by omega
        have hcl := hcell p hpk
        clear hcell hpk hle hlt
        go_wp2_with (first
          | (go_at_call 9; refine (D9.out _).mono ?_; rintro e w5 ⟨rfl, h5⟩; obtain ⟨c, hc⟩ : ∃ c, w5.heap.size = c := ⟨_, rfl⟩)
          | (refine wpList_alloc_new 8 rfl rfl 23 rfl c hc _ (zero_of_info info23).1 ?_; intro w6 h6)
          | (refine wpList_store_all rfl 23 (.tmp 8) (.tmp 67) rfl c rfl (q.map byteV) rfl 23 _ h6.holds (by rw [(zero_of_info info23).2, List.length_map, hq]) (by rw [List.length_map, List.length_map, hq]; rfl) (byteV_one _) ?_; intro w7 h7))
        have hwc : wr.heap.size ≤ c := by rw [← hc]; exact h5.size
        have r7 : Below wr.heap.size wr w7.drew := ((h5.trans (h6.below.mono hwc)).trans (h7.below hwc)).drew
        have HH7 : Hid (Holds w7.drew b (hashV (putN newL (bytes (ps.take k)))) 43) := hH.below r7 hH.lt
        have HO7 : Hid (w7.drew.ownsRow (b + 1) 9 1 u6 k ((ps.take k).map Value.string)) := owns_upd HO.out (Upd.ofBelow (b := b) r7) (by omega)
        have b7 : Below n w w7.drew := hb.trans (r7.mono hnw)
        have hq7 : Holds w7.drew c (q.map byteV) 23 := h7.holds.drew
        have l7 : rowOf w7.drew (.pointer (some ⟨c, 0, none⟩)) 32 = some (q.map byteV) := by
          have := rowOf_range (hq7.range 0 _ (fun j v hv => by rw [Nat.zero_add]; exact hv))
          rwa [List.length_map, hq] at this
        clear h5 h6 h7 hc HO hH hb r7
        go_region_with (first
          | (go_at_call 14; refine (D14.out b w7.drew (hL.below b7 (by omega)) HH7.out).mono ?_; rintro e w8 ⟨rfl, h8⟩; have hq8 := hq7.below h8 hq7.lt; have l8 : rowOf w8 (.pointer (some ⟨c, 0, none⟩)) 32 = some (q.map byteV) := (by have := rowOf_range (hq8.range 0 _ (fun j v hv => by rw [Nat.zero_add]; exact hv)); rwa [List.length_map, hq] at this); have b8 : Below n w w8 := b7.trans (h8.mono (by have := b7.size; omega)); have HP8 : Hid (Parts w8 u6 (ps.take k)) := parts_owned (owns_upd HO7.out (Upd.ofBelow (b := b) h8) (by omega)) hkl)
          | (go_at_call 8; refine (D8.out _ w8 HP8.out (hL.below b8 (by omega))).mono ?_; rintro e w9 ⟨rfl, h9⟩; have hq9 := hq8.below h9 hq8.lt; have l9 : rowOf w9 (.pointer (some ⟨c, 0, none⟩)) 32 = some (q.map byteV) := (by have := rowOf_range (hq9.range 0 _ (fun j v hv => by rw [Nat.zero_add]; exact hv)); rwa [List.length_map, hq] at this); have b9 : Below n w w9 := b8.trans (h9.mono (by have := b8.size; omega))))
        all_goals
          go_wp2
          go_ret
          exact ⟨rfl, b9⟩
end Go.Proofs.YtccebaleaipilaaDoor
