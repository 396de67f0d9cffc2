/- What package tree's Level answers. -/
import Derived.Test.YtbfadapffpijpaaDoorTrRoot
namespace Go.Proofs.YtbfadapffpijpaaDoor
open Go.RowKit Go.Maps Go.WideMaps

/-- A list of integers in memory, not in block b. -/
def IntsAt (w : World) (b : Nat) (v : Value) (l : List Int) : Prop := ∃ a cap, v = .slice a l.length cap ∧ ∀ (i : Nat) (x : Int), l[i]? = some x → ∃ g o, a = some ⟨g, o, none⟩ ∧ g < w.heap.size ∧ g ≠ b ∧ w.cell? ⟨g, o + i, none⟩ = some (.int .i64 x)
theorem IntsAt.tupd {w w' : World} {b : Nat} {v : Value} {l : List Int} (h : IntsAt w b v l) (hu : TUpd (Is b) w w') : IntsAt w' b v l := by
  obtain ⟨a, cap, e, hc⟩ := h
  refine ⟨a, cap, e, fun i x hx => ?_⟩
  obtain ⟨g, o, e1, h1, h2, h3⟩ := hc i x hx
  exact ⟨g, o, e1, Nat.lt_of_lt_of_le h1 hu.size, h2, by rw [World.cell?_of_block (w := w) (hu.block g h1 h2)]; exact h3⟩
/-- What of a branch is told. -/
def partT (T : Tr) (j : Int) : List (List UInt8) := if 0 ≤ j ∧ j < 16 then ((allH T).drop (16 * j.toNat)).take 16 else []
def levelT (T : Tr) (l : List Int) : List (List UInt8) := (if l.length = 0 then allB T else []) ++ l.flatMap (partT T)
theorem partT_32 (T : Tr) (j : Int) : ∀ s ∈ partT T j, s.length = 32 := fun s hs => by
  unfold partT at hs
  split at hs
  · exact allH_32 T s (List.mem_of_mem_drop (List.mem_of_mem_take hs))
  · cases hs
theorem partT_len {T : Tr} (h : T.Ok) (j : Int) (hj : 0 ≤ j ∧ j < 16) : (partT T j).length = 16 := by
  have := allH_len h
  unfold partT
  rw [if_pos hj, List.length_take, List.length_drop]; omega
theorem lies_cells {w : World} {g o : Nat} {ls : List (List UInt8)} (h : Lies w g o ls) (h32 : ∀ l ∈ ls, l.length = 32) (i : Nat) (u : Value) (hu : (ls.flatten.map byteV)[i]? = some u) : w.cell? ⟨g, o + i, none⟩ = some u := by
  have hl := flat_len ls h32
  have hi : i < 32 * ls.length := by have := (List.getElem?_eq_some_iff.1 hu).1; rw [List.length_map, hl] at this; exact this
  have hq : i / 32 < ls.length := by omega
  have h1 := flat_at ls (i / 32) (i % 32) ls[i / 32] h32 (List.getElem?_eq_getElem hq) (by omega)
  rw [show 32 * (i / 32) + i % 32 = i by omega] at h1
  have h2 := h (i / 32) ls[i / 32] (List.getElem?_eq_getElem hq) (i % 32) u (by rw [List.getElem?_map, ← h1, ← List.getElem?_map]; exact hu)
  rw [show o + i / 32 * 32 + i % 32 = o + i by omega] at h2
  exact h2
theorem full26 : (Tryd.prog.info? 26).map (fun i => (i.size, i.bytes)) = some (32, 32) := by kernel_rfl
theorem zeroI26 : (Tryd.prog.info? 26).bind (·.zero) = some (.agg (zero32.map byteV).toArray) := by kernel_rfl
theorem inf26 : ∃ i, Tryd.prog.info? 26 = some i ∧ i.zero = some (.agg (zero32.map byteV).toArray) ∧ i.size = 32 ∧ i.bytes = 32 := by
  have h1 := full26
  have h2 := zeroI26
  cases h : Tryd.prog.info? 26 with
  | none => rw [h] at h1; cases h1
  | some i =>
    rw [h] at h1 h2
    simp at h1
    exact ⟨i, rfl, h2, h1.1, h1.2⟩
def rowsV (l : List (List UInt8)) : List Value := l.flatten.map byteV
theorem rowsV_append (l m : List (List UInt8)) : rowsV (l ++ m) = rowsV l ++ rowsV m := by simp [rowsV]
theorem rowsV_len (l : List (List UInt8)) (h : ∀ s ∈ l, s.length = 32) : (rowsV l).length = l.length * 32 := by rw [rowsV, List.length_map, flat_len l h]; omega
theorem flat_take_succ (T : Tr) (l : List Int) (k : Nat) (x : Int) (h : l[k]? = some x) : (l.take (k + 1)).flatMap (partT T) = (l.take k).flatMap (partT T) ++ partT T x := by
  rw [List.take_add_one, h, List.flatMap_append]; simp
theorem parts_len_le {T : Tr} (h : T.Ok) : ∀ l : List Int, (l.flatMap (partT T)).length ≤ 16 * l.length
  | [] => by simp
  | j :: l => by
    have ih := parts_len_le h l
    have : (partT T j).length ≤ 16 := by
      by_cases hj : 0 ≤ j ∧ j < 16
      · rw [partT_len h j hj]; omega
      · unfold partT; rw [if_neg hj]; simp
    rw [List.flatMap_cons, List.length_append, List.length_cons]; omega
theorem level_nil (v : Value) (w : World) : Calls Tryd.prog 11 #[.pointer none, v] w fun e w' => e = .returned (.slice none 0 0) ∧ w' = w := by
  go_enter Tryd.func11, Tryd.ntmps11
  go_wp2
  go_ret
  exact ⟨rfl, rfl⟩
theorem TreeAt.grown {w w' : World} {N b : Nat} {mv : List Value} {T : Tr} {v : Value} {base : Nat} (h : TreeAt w N b mv T) (hg : w.grownBy w' v.ownBlock) (hv : ∀ j, v.ownBlock = some j → base ≤ j) (hO : ∀ i, Own b mv i → i < base) : TreeAt w' N b mv T :=
  h.tupd (L := fun i => base ≤ i) ⟨hg.os, hg.tape, hg.output, hg.size, fun i hi hl => hg.block i hi (fun e => hl (hv i e.symm))⟩ (fun i hi q => by have := hO i hi; omega)
theorem TUpd.grownR {L : Nat → Prop} {x y z : World} {v : Value} (h : TUpd L x y) (hg : y.grownBy z v.ownBlock) (hv : ∀ j, v.ownBlock = some j → x.heap.size ≤ j) : TUpd L x z :=
  ⟨hg.os.trans h.os, hg.tape.trans h.tape, hg.output.trans h.output, Nat.le_trans h.size hg.size, fun i hi hl => (hg.block i (Nat.lt_of_lt_of_le hi h.size) (fun e => by have := hv i e.symm; omega)).trans (h.block i hi hl)⟩
set_option maxHeartbeats 2000000 in
set_option maxRecDepth 100000 in
theorem level_some (N b : Nat) (mv : List Value) (T : Tr) (hf : Fit T 536870912) (v : Value) (l : List Int) (hl : l.length ≤ 68719476736) (w : World) (hb2 : 2 ≤ b) (hL : Laid w) (h : TreeAt w N b mv T) (hv : IntsAt w b v l) :
    Calls Tryd.prog 11 #[.pointer (some ⟨b, 0, none⟩), v] w fun e w' => ∃ u, e = .returned u ∧ w'.ownsRow w.heap.size 26 32 u (levelT T l).length (rowsV (levelT T l)) ∧ TreeAt w' N b mv (reckT T) ∧ TUpd (Is b) w w' := by
  have hlen := h.len
  have hok := h.ok
  have hsz := (reckT_ok h.ok).sz
  obtain ⟨n, hn⟩ : ∃ n, w.heap.size = n := ⟨_, rfl⟩
  have hOwn : Hid (∀ i, Own b mv i → i < w.heap.size) := h.lt
  have hR : Hid (Calls Tryd.prog 27 #[.pointer (some ⟨b, 0, none⟩)] w fun e w' => e = .returned (.tuple #[]) ∧ TreeAt w' N b mv (reckT T) ∧ TUpd (Is b) w w') := reckon_some N b mv T hf w hb2 hL h
  have hLow : Hid (∀ W, TreeAt W N b mv (reckT T) → Lies W b 8704 (allB T)) := fun W hA => lies_br hlen hsz hA.holds
  have hPart : Hid (∀ W (x : Int), 0 ≤ x ∧ x < 16 → TreeAt W N b mv (reckT T) → Lies W b (256 + 512 * x.toNat) (partT T x)) := fun W x hx hA => by
    have := lies_part hlen hsz hA.holds (j := x.toNat)
    unfold partT
    rw [if_pos hx]
    exact this
  have hIn : Hid (∀ W, TUpd (Is b) w W → IntsAt W b v l) := fun W hu => hv.tupd hu
  obtain ⟨av, cv, rfl, hvx⟩ := hv
  clear hvx
  obtain ⟨i26, f26, hz26, hs26, hb26⟩ := inf26
  have F26 : Hid (Tryd.prog.info? 26 = some i26) := f26
  have hs29 := run_slice29
  obtain ⟨ln, hln⟩ : ∃ ln, l.length = ln := ⟨_, rfl⟩
  have HM : Hid (l.length = ln) := hln
  have HOk : Hid T.Ok := hok
  rw [hn] at hOwn ⊢
  clear h hf hL f26 hok
  -- the first part
  have hTot : Hid (levelT T l = (if ln = 0 then allB T else []) ++ l.flatMap (partT T)) := by rw [levelT, hln]; exact rfl
  rw [hln] at hl ⊢
  clear hln
  obtain ⟨pre, hpre⟩ : ∃ pre, (if ln = 0 then allB T else []) = pre := ⟨_, rfl⟩
  have hpl : pre.length ≤ 16 := by
    rw [← hpre]
    split
    · rw [allB_len]; omega
    · simp
  have hp32 : Hid (∀ s ∈ pre, s.length = 32) := by
    intro s hs
    rw [← hpre] at hs
    split at hs
    · exact allB_32 T s hs
    · cases hs
  rw [hpre] at hTot
  have hcut : Hid (∀ k : Nat, k ≤ ln → (pre ++ (l.take k).flatMap (partT T)).length ≤ 16 + 16 * k) := fun k hk => by
    have := parts_len_le HOk.out (l.take k)
    rw [List.length_take, HM.out, Nat.min_eq_left hk] at this
    rw [List.length_append]; omega
  rcases Nat.eq_zero_or_pos ln with h0 | hpos
  · have hpe : pre = allB T := by rw [← hpre, if_pos h0]
    have hl0 : (ln : Int) = 0 := by omega
    have hrl : Hid ((rowsV (allB T)).length = 16 * 32) := by
      show (rowsV (allB T)).length = 16 * 32
      rw [rowsV_len _ (allB_32 T), allB_len]
    clear h0 hpre
    go_enter Tryd.func11, Tryd.ntmps11
    go_wp2_with (first
      | (go_at_call 27; refine hR.out.mono ?_; rintro e w2 ⟨rfl, hA2, u2⟩; have hN2 := lies_cells (hLow.out w2 hA2) (allB_32 T))
      | (at_builtin; refine wpList_append_src rfl (.tmp 15) (.tmp 19) 38 rfl n 26 i26 _ 32 32 und38 F26.out hz26 hs26 hb26 (by rfl) (by omega) _ _ _ (World.ownsRow_nil _ _ _ _) rfl (rowsV (allB T)) _ 16 16 rfl hrl.out (fun _ => ⟨_, rfl, fun i u hu => by rw [Addr.add_mid]; exact hN2 i u hu⟩) (byteV_one _) (by unfold maxLen; omega) (by omega) (by have := u2.size; omega) ?_; intro v3 w3 own3 gr3 _; obtain ⟨at3, ct3, rfl⟩ := row_slice own3))
    have O0 : Hid (w3.ownsRow n 26 32 (.slice at3 (0 + 16) ct3) pre.length (rowsV pre)) := by
      show w3.ownsRow n 26 32 (.slice at3 (0 + 16) ct3) pre.length (rowsV pre)
      rw [hpe, allB_len]
      simpa using own3
    have A0 : Hid (TreeAt w3 N b mv (reckT T)) := hA2.grown (v := .slice none 0 0) (base := n) gr3 (fun j e => by cases e) hOwn.out
    have U0 : Hid (TUpd (Is b) w w3) := u2.grownR (v := .slice none 0 0) gr3 (fun j e => by cases e)
    clear own3 gr3 hA2 u2 hN2
    have hLv : levelT T l = pre := by rw [hTot.out, List.eq_nil_of_length_eq_zero (HM.out.trans (by omega)), List.flatMap_nil, List.append_nil]
    have O1 : w3.ownsRow n 26 32 (.slice at3 16 ct3) (levelT T l).length (rowsV (levelT T l)) := by rw [hLv]; exact O0.out
    clear hl0 hpe hLv O0
    go_loopw [5, 23] (fun tv c wr => c = .int .i64 0 ∧ tv = .slice at3 16 ct3 ∧ wr = w3) (fun _ _ _ => 0)
    case atStart => exact ⟨rfl, rfl, rfl⟩
    case round =>
      obtain ⟨rfl, rfl, rfl⟩ := hrel
      go_wp2
      go_ret
      exact ⟨_, rfl, O1, A0.out, U0.out⟩
  · have hpe : pre = [] := by rw [← hpre, if_neg (by omega)]
    have hl0 : ((ln : Int) == 0) = false := by simp; omega
    clear hpre
    go_enter Tryd.func11, Tryd.ntmps11
    go_wp2_with (go_at_call 27; refine hR.out.mono ?_; rintro e w2 ⟨rfl, hA2, u2⟩)
    have O0 : Hid (w2.ownsRow n 26 32 (.slice none 0 0) pre.length (rowsV pre)) := by
      show w2.ownsRow n 26 32 (.slice none 0 0) pre.length (rowsV pre)
      rw [hpe]
      exact World.ownsRow_nil _ _ _ _
    have A0 : Hid (TreeAt w2 N b mv (reckT T)) := hA2
    have U0 : Hid (TUpd (Is b) w w2) := u2
    clear hA2 u2
    clear hpe hl0
    go_loopw [5, 23] (fun tv c wr => ∃ k : Nat, k ≤ ln ∧ c = .int .i64 (k : Int) ∧ wr.ownsRow n 26 32 tv (pre ++ (l.take k).flatMap (partT T)).length (rowsV (pre ++ (l.take k).flatMap (partT T))) ∧ TreeAt wr N b mv (reckT T) ∧ TUpd (Is b) w wr) (fun _ c _ => ln - (intOf c).toNat)
    case atStart => exact ⟨0, by omega, rfl, by simpa using O0.out, A0.out, U0.out⟩
    case round =>
    clear O0 A0 U0
    obtain ⟨k, hk, rfl, hown, hA, hU⟩ := hrel
    by_cases hlt : k < ln
    · obtain ⟨x, hx⟩ : ∃ x, l[k]? = some x := ⟨_, List.getElem?_eq_getElem (by rw [HM.out]; exact hlt)⟩
      obtain ⟨a', c', e', hcs⟩ := hIn.out wr hU
      cases e'
      obtain ⟨g, o, rfl, hgl, hgb, hc⟩ := hcs k x hx
      clear hcs
      have i0 : (0 : Int) ≤ (k : Int) := by omega
      have i1 : (k : Int) < (ln : Int) := by omega
      have hstep : Hid (pre ++ (l.take (k + 1)).flatMap (partT T) = pre ++ (l.take k).flatMap (partT T) ++ partT T x) := by
        have := flat_take_succ T l k x hx
        show pre ++ _ = _
        rw [this, List.append_assoc]
      have hcu := hcut.out k (by omega)
      obtain ⟨P, hP⟩ : ∃ P, pre ++ (l.take k).flatMap (partT T) = P := ⟨_, rfl⟩
      rw [hP] at hown hstep hcu
      obtain ⟨at_, ct, rfl⟩ := row_slice hown
      by_cases hxr : 0 ≤ x ∧ x < 16
      · obtain ⟨x0, x1⟩ := hxr
        obtain ⟨j, rfl⟩ : ∃ j : Nat, x = (j : Int) := ⟨x.toNat, by omega⟩
        have hj : j < 16 := by omega
        have hL1 := hPart.out wr (j : Int) ⟨x0, x1⟩ hA
        have hpl16 : (partT T (j : Int)).length = 16 := partT_len HOk.out _ ⟨x0, x1⟩
        have hnews := lies_cells hL1 (partT_32 T (j : Int))
        rw [show (j : Int).toNat = j by omega] at hnews
        have HN : Hid (∀ (i : Nat) (u : Value), (rowsV (partT T (j : Int)))[i]? = some u → wr.cell? ⟨b, 256 + 512 * j + i, none⟩ = some u) := hnews
        have hrl : Hid ((rowsV (partT T (j : Int))).length = 16 * 32) := by
          show (rowsV (partT T (j : Int))).length = 16 * 32
          rw [rowsV_len _ (partT_32 T _), hpl16]
        have hBel : Hid (∀ W, Calls Tryd.prog 29 #[.pointer (some ⟨b, 0, none⟩), .int .i64 (j : Int)] W fun e w' => e = .returned (.slice (some ⟨b, 256 + 512 * j, none⟩) 16 (256 - 16 * j)) ∧ w' = W) := fun W => below_any b j hj W
        have HA : Hid (TreeAt wr N b mv (reckT T)) := hA
        have HU : Hid (TUpd (Is b) w wr) := hU
        have hle : n ≤ wr.heap.size := by have := hU.size; omega
        have HOW := hown
        clear hA hU hL1 hnews hP
        go_wp2_with (first
          | (go_at_call 29; refine (hBel.out _).mono ?_; rintro e w1 ⟨rfl, rfl⟩)
          | (at_builtin; refine wpList_append_src rfl (.tmp 33) (.tmp 36) 38 rfl n 26 i26 _ 32 32 und38 F26.out hz26 hs26 hb26 (by rfl) (by omega) _ _ _ HOW rfl (rowsV (partT T (j : Int))) _ 16 (256 - 16 * j) rfl hrl.out (fun _ => ⟨_, rfl, fun i u hu => by rw [Addr.add_mid]; exact HN.out i u hu⟩) (byteV_one _) (by unfold maxLen; omega) (by omega) hle ?_; intro v3 w3 own3 gr3 _))
        have hvb : ∀ i, (Value.slice at_ P.length ct).ownBlock = some i → n ≤ i := fun i e => own3_base HOW i e
        refine ⟨⟨k + 1, by omega, by go_num, ?_, HA.out.grown gr3 hvb hOwn.out, HU.out.grownR gr3 (by rw [hn]; exact hvb)⟩, by simp [intOf]; omega⟩
        rw [hstep.out, rowsV_append, List.length_append, hpl16]
        exact own3
      · have hpz : partT T x = [] := if_neg hxr
        rw [hpz, List.append_nil] at hstep
        have HA : Hid (TreeAt wr N b mv (reckT T)) := hA
        have HU : Hid (TUpd (Is b) w wr) := hU
        have HOW : Hid (wr.ownsRow n 26 32 (.slice at_ P.length ct) P.length (rowsV P)) := hown
        clear hA hU hP hown
        by_cases x0 : 0 ≤ x
        · have x1 : ¬ x < 16 := fun q => hxr ⟨x0, q⟩
          go_wp2
          exact ⟨⟨k + 1, by omega, by go_num, by rw [hstep.out]; exact HOW.out, HA.out, HU.out⟩, by simp [intOf]; omega⟩
        · go_wp2
          exact ⟨⟨k + 1, by omega, by go_num, by rw [hstep.out]; exact HOW.out, HA.out, HU.out⟩, by simp [intOf]; omega⟩
    · have e : pre ++ (l.take k).flatMap (partT T) = levelT T l := by rw [hTot.out, List.take_of_length_le (by rw [HM.out]; omega)]
      rw [e] at hown
      have i1 : ¬ (k : Int) < (ln : Int) := by omega
      clear e
      have HA : Hid (TreeAt wr N b mv (reckT T)) := hA
      have HU : Hid (TUpd (Is b) w wr) := hU
      have HOW := hown
      obtain ⟨at_, ct, rfl⟩ := row_slice hown
      clear hA hU
      go_wp2
      go_ret
      exact ⟨_, rfl, HOW, HA.out, HU.out⟩
end Go.Proofs.YtbfadapffpijpaaDoor
