/- Bytes are laid behind a file's. -/
import Derived.Test.YthaknjbcmflegaaFits
namespace Go.Proofs.Ythaknjbcmflegaa
open Go.RowKit Go.Maps Go.WideMaps

/-- A text is appended, and where the new row lies. -/
theorem append_str_at {P : Program} (w : World) (base : Nat) (t u ty e : TypeId) (i : TypeInfo) (ht : P.underlying t = some (.slice e)) (hu : P.underlying u = some .string) (hi : P.info? e = some i) (hz : i.zero = some (.int .u8 0))
    (hsize : i.size = 1) (hby : i.bytes = 1) (v : Value) (n : Nat) (xs : List Value) (hown : w.ownsRow base e 1 v n xs) (s : ByteArray) (h63 : n + s.size ≤ maxLen) (hbytes : n + s.size ≤ 140737488355328) (hbase : base ≤ w.heap.size) :
    ∃ v' w', (Builtin.append_ #[t, u] ty #[v, .string s]).run P w = .ok v' w' ∧ w'.ownsRow base e 1 v' (n + s.size) (xs ++ Lib.strCells s) ∧ w.grownBy w' v.ownBlock ∧ ∀ g, v'.ownBlock = some g → v.ownBlock = some g ∨ w.heap.size ≤ g := by
  obtain ⟨v', w', hr, ho, hg, _⟩ := Lib.run_append_own_string (P := P) w base t u ty e i ht hu hi hz hsize hby v n xs hown s h63 hbytes hbase
  refine ⟨v', w', hr, ho, hg, fun g hgb => ?_⟩
  rcases hown.2 with ⟨rfl, rfl⟩ | ⟨g0, cap, cur, rfl, hbg, hg0, hnc, hcm, hcs, htake⟩
  · have hx : xs = [] := List.eq_nil_of_length_eq_zero (by simpa using hown.1)
    subst hx
    obtain ⟨v2, w2, hr2, ho2, _⟩ := Lib.run_append_own_string (P := P) w w.heap.size t u ty e i ht hu hi hz hsize hby (.slice none 0 0) 0 [] (World.ownsRow_nil _ _ _ _) s h63 hbytes (Nat.le_refl _)
    rw [hr] at hr2
    injection hr2 with e1 e2
    subst e1
    exact .inr (ho2.lt g hgb).1
  · by_cases hroom : n + s.size ≤ cap
    · have hr2 := Lib.run_append_room_string (P := P) w t u ty e i ht hu hi hsize g0 n cap cur hg0 s hroom (by have : cur.size = cap * 1 := hcs; omega)
      rw [hr] at hr2
      injection hr2 with e1 e2
      subst e1
      exact .inl hgb
    · have hxl : xs.length = n := by simpa using hown.1
      have hr2 := Lib.run_append_grow_string (P := P) w t u ty e i (.int .u8 0) ht hu hi hz ⟨g0, 0, none⟩ n cap xs (by rw [hsize]; simpa using hxl) (hown.cells (g := g0) rfl) s (by omega) (by simp only [maxLen] at h63; omega) (by rw [hby]; exact growslice_fits (by omega) (by omega))
      rw [hr] at hr2
      injection hr2 with e1 e2
      subst e1
      obtain rfl : w.heap.size = g := by simpa [Value.ownBlock] using hgb
      exact .inr (Nat.le_refl _)
theorem wpList_append_str_at {P : Program} (w : World) {ops : Array Oper} {rest : List Oper} {o : Oper} {a : Act} {Q : Exit → Act → World → Prop} (hgd : o.guard = none) (sl x : Operand) (t u : TypeId)
    (ho : o.op = .call { callee := .builtin .append, args := #[sl, x], argTypes := #[t, u] })
    (base : Nat) (e : TypeId) (i : TypeInfo) (ht : P.underlying t = some (.slice e)) (hu : P.underlying u = some .string) (hi : P.info? e = some i) (hz : i.zero = some (.int .u8 0))
    (hsize : i.size = 1) (hby : i.bytes = 1)
    (v : Value) (n : Nat) (xs : List Value) (hs : a.eval sl = v) (hown : w.ownsRow base e 1 v n xs) (s : ByteArray) (hx : a.eval x = .string s)
    (h63 : n + s.size ≤ maxLen) (hbytes : n + s.size ≤ 140737488355328) (hbase : base ≤ w.heap.size)
    (h : ∀ a' c' w', w'.ownsRow base e 1 (.slice a' (n + s.size) c') (n + s.size) (xs ++ Lib.strCells s) → w.grownBy w' v.ownBlock → (∀ g, (Value.slice a' (n + s.size) c').ownBlock = some g → v.ownBlock = some g ∨ w.heap.size ≤ g) → wpList P ops Q rest (a.put o.dst (.slice a' (n + s.size) c')) w') : wpList P ops Q (o :: rest) a w := by
  refine wpList_plain hgd fun K hK => ?_
  obtain ⟨v', w', hr, h2, h3, h4⟩ := append_str_at (P := P) w base t u o.type e i ht hu hi hz hsize hby v n xs hown s h63 hbytes hbase
  obtain ⟨a', c', rfl⟩ : ∃ a' c', v' = .slice a' (n + s.size) c' := by
    rcases h2.2 with ⟨rfl, h0⟩ | ⟨g, cap, cur, rfl, _⟩
    · rw [h0]; exact ⟨_, _, rfl⟩
    · exact ⟨_, _, rfl⟩
  unfold Oper.wp execOp
  simp only [ho, resolve, invoke, builtin, Sem.run_bind, Sem.run_pure, Result.andThen_ok, List.map_toArray, List.map_cons, List.map_nil, hs, hx, hr]
  exact hK _ _ (h a' c' w' h2 h3 h4)

theorem full5 : (Try.prog.info? 5).map (fun i => (i.zero, i.size, i.bytes)) = some (some (.int .u8 0), 1, 1) := by kernel_rfl
theorem inf5 : ∃ i, Try.prog.info? 5 = some i ∧ i.zero = some (.int .u8 0) ∧ i.size = 1 ∧ i.bytes = 1 := by
  have := full5
  cases h : Try.prog.info? 5 with
  | none => simp [h] at this
  | some i =>
    simp [h] at this
    exact ⟨i, rfl, this.1, this.2.1, this.2.2⟩

/-- What behind a call that writes a file in block b, whose bytes v has, is told of the world. -/
structure Wrt (b : Nat) (v : Value) (w w' : World) : Prop where
  os : w'.os = w.os
  tape : w'.tape = w.tape
  output : w'.output = w.output
  size : w.heap.size ≤ w'.heap.size
  block : ∀ i, i < w.heap.size → i ≠ b → some i ≠ v.ownBlock → w'.heap[i]? = w.heap[i]?
theorem Wrt.refl (b : Nat) (v : Value) (w : World) : Wrt b v w w := ⟨rfl, rfl, rfl, Nat.le_refl _, fun _ _ _ _ => rfl⟩
theorem Wrt.dupd {N b : Nat} {v f : Value} {n : Nat} {xs : List Value} {w w' : World} (h : Wrt b v w w') (hN : N ≤ b) (hH : Holds w b [v, f] 61) (hr : w.ownsRow N 5 1 v n xs) : DUpd N w w' :=
  ⟨h.os, h.tape, h.output, h.size, fun i hi hc => h.block i hi
    (fun e => by
      subst e
      rcases hc with hc | ⟨cs, t, fr, hc, _, ht, _⟩
      · omega
      · unfold Holds at hH
        rw [hH] at hc
        simp at hc
        exact ht hc.2.1.symm)
    (fun e => by
      rcases hr.2 with ⟨rfl, _⟩ | ⟨g, cap, cur, rfl, hb, hg, _⟩
      · cases e
      · obtain rfl : i = g := by simpa [Value.ownBlock] using e
        rcases hc with hc | ⟨cs, t, fr, hc, _, _, ht⟩
        · omega
        · rw [hg] at hc
          simp at hc
          exact ht hc.2.1.symm)⟩
theorem strCells_eq (s : ByteArray) : Lib.strCells s = s.data.toList.map byteV := rfl
/-- The bytes of parts. -/
def joins (ps : List ByteArray) : List UInt8 := ps.flatMap fun s => s.data.toList
theorem joins_take (l : List ByteArray) (k : Nat) (s : ByteArray) (h : l[k]? = some s) : joins (l.take (k + 1)) = joins (l.take k) ++ s.data.toList := by
  unfold joins
  rw [List.take_add_one, h, List.flatMap_append]
  simp
theorem joins_len (l : List ByteArray) : (joins l).length = lens l := by
  induction l with
  | nil => rfl
  | cons s r ih =>
    have : joins (s :: r) = s.data.toList ++ joins r := rfl
    rw [this, List.length_append, ih, lens]; rfl

theorem row_set {w : World} {N n b : Nat} {v : Value} {xs cs : List Value} (h : w.ownsRow N 5 1 v n xs) (hb : Holds w b cs 61) (i : Nat) (u : Value) : (w.setCell ⟨b, i, none⟩ u).ownsRow N 5 1 v n xs := by
  refine ⟨h.1, ?_⟩
  rcases h.2 with hn | ⟨g, cap, cur, e, hbg, hg, r⟩
  · exact .inl hn
  · refine .inr ⟨g, cap, cur, e, hbg, ?_, r⟩
    rw [heap_setCell_other w ⟨b, i, none⟩ g u (fun (e2 : g = b) => by subst e2; unfold Holds at hb; rw [hb] at hg; simp at hg)]
    exact hg
set_option maxHeartbeats 1600000 in
set_option maxRecDepth 100000 in
theorem layIt_any (N b : Nat) (v f : Value) (bs : List UInt8) (ps : List ByteArray) (a : Option Addr) (c : Nat) (w : World) (hH : Holds w b [v, f] 61) (hN : N ≤ b) (hr : w.ownsRow N 5 1 v bs.length (bs.map byteV))
    (ha : StrsAt w N a ps) (hlen : bs.length + lens ps ≤ 16777216) (hm : ps.length < 9223372036854775808) :
    Calls Try.prog 49 #[.pointer (some ⟨b, 0, none⟩), .slice a ps.length c] w fun e w' => e = .returned (.tuple #[]) ∧ ∃ v', Holds w' b [v', f] 61 ∧ w'.ownsRow N 5 1 v' (bs ++ joins ps).length ((bs ++ joins ps).map byteV) ∧ (∀ g, v'.ownBlock = some g → v.ownBlock = some g ∨ w.heap.size ≤ g) ∧ Wrt b v w w' := by
  obtain ⟨i5, f5, hz5, hs5, hb5⟩ := inf5
  have F5 : Hid (Try.prog.info? 5 = some i5) := f5
  have FZ : Hid (i5.zero = some (.int .u8 0)) := hz5
  have FS : Hid (i5.size = 1) := hs5
  have FB : Hid (i5.bytes = 1) := hb5
  clear f5 hz5 hs5 hb5
  have Ha : Hid (StrsAt w N a ps) := ha
  have HH : Hid (Holds w b [v, f] 61) := hH
  have HR : Hid (w.ownsRow N 5 1 v bs.length (bs.map byteV)) := hr
  have hbl := hH.lt
  obtain ⟨m, hmm⟩ : ∃ m, ps.length = m := ⟨_, rfl⟩
  have M : Hid (ps.length = m) := hmm
  rw [hmm] at hm ⊢
  clear hmm ha
  obtain ⟨va, vc, hv⟩ := row_form hr
  have c0 := hH.at 0 _ rfl
  go_enter Try.func49, Try.ntmps49
  go_wp2_with fail
  go_loopw [8] (fun c wr => ∃ (k : Nat) (v' : Value), k ≤ m ∧ c = .int .i64 (k : Int) ∧ Holds wr b [v', f] 61 ∧ wr.ownsRow N 5 1 v' (bs ++ joins (ps.take k)).length ((bs ++ joins (ps.take k)).map byteV) ∧ (∀ g, v'.ownBlock = some g → v.ownBlock = some g ∨ w.heap.size ≤ g) ∧ Wrt b v w wr) (fun c _ => m - (intOf c).toNat)
  case atStart => exact ⟨0, v, by omega, rfl, HH.out, by simpa [joins] using HR.out, fun g hg => .inl hg, Wrt.refl _ _ _⟩
  case round =>
    clear hH hr c0 hv
    obtain ⟨k, v', hk, rfl, hH, hr, hloc, hu⟩ := hrel
    have HLoc : Hid (∀ g, v'.ownBlock = some g → v.ownBlock = some g ∨ w.heap.size ≤ g) := hloc
    clear hloc
    by_cases hlt : k < m
    · obtain ⟨s, hs⟩ : ∃ s, ps[k]? = some s := ⟨ps[k]'(by have := M.out; omega), List.getElem?_eq_getElem _⟩
      have hst := joins_take ps k s hs
      have hle : (bs ++ joins (ps.take k)).length + s.size ≤ 16777216 := by
        rw [List.length_append, joins_len]
        have h1 := lens_take ps k s hs
        have h2 := lens_take_le ps (k + 1)
        omega
      rcases Ha.out.dupd (hu.dupd hN HH.out HR.out) with h0 | ⟨g, o, rfl, _, _, hc⟩
      · have := M.out; omega
      have ck := hc k s hs
      have Hst : Hid (joins (ps.take (k + 1)) = joins (ps.take k) ++ s.data.toList) := hst
      have hbase : N ≤ wr.heap.size := by have := hu.size; omega
      have HHw : Hid (Holds wr b [v', f] 61) := hH
      obtain ⟨va', vc', hv'⟩ := row_form hr
      have c0 := hH.at 0 _ rfl
      have f0 := hH.frozen 0
      rw [hv'] at c0
      have hvb : ∀ g, v'.ownBlock = some g → g ≠ b := fun g hg e => by
        subst e
        rcases hr.2 with ⟨e2, _⟩ | ⟨g', cap, cur, e2, _, hg', _⟩
        · rw [e2] at hg; cases hg
        · rw [e2] at hg
          obtain rfl : g' = g := by simpa [Value.ownBlock] using hg
          unfold Holds at hH
          rw [hH] at hg'
          simp at hg'
      have HVB : Hid (∀ g, v'.ownBlock = some g → g ≠ b) := hvb
      clear hst hc hs hvb
      have HQ : Hid ((bs ++ joins (ps.take (k + 1))).length = (bs ++ joins (ps.take k)).length + s.size ∧ (bs ++ joins (ps.take (k + 1))).map byteV = (bs ++ joins (ps.take k)).map byteV ++ Lib.strCells s) := by
        show _ ∧ _
        rw [Hst.out, ← List.append_assoc, List.length_append, List.map_append]
        exact ⟨rfl, rfl⟩
      generalize (bs ++ joins (ps.take k)).length = q at *
      subst hv'
      have f0' : Hid (∀ W : World, wr.grownBy W (Value.slice va' q vc').ownBlock → W.cell? ⟨b, 0, none⟩ = some (.slice va' q vc') ∧ W.frozen? ⟨b, 0, none⟩ = false ∧ Holds W b [.slice va' q vc', f] 61) := fun W hg => by
        have hne : some b ≠ (Value.slice va' q vc').ownBlock := fun e => HVB.out b e.symm rfl
        have e := hg.block b HHw.out.lt hne
        have h3 : Holds W b [.slice va' q vc', f] 61 := by unfold Holds; rw [e]; exact HHw.out
        exact ⟨h3.at 0 _ rfl, h3.frozen 0, h3⟩
      clear hH
      go_wp2_with (first
        | (at_builtin; refine wpList_append_str_at _ rfl (.tmp 16) (.tmp 17) 57 9 rfl N 5 i5 und57 und9 F5.out FZ.out FS.out FB.out (.slice va' q vc') q _ rfl hr s rfl (by unfold maxLen; omega) (by omega) hbase ?_; intro a3 c3 w3 hr3 hg3 hloc3; obtain ⟨e0, e1, e2⟩ := f0'.out w3 hg3; have E2 : Hid (Holds w3 b [.slice va' q vc', f] 61) := e2; have HL3 : Hid (∀ g, (Value.slice a3 (q + s.size) c3).ownBlock = some g → (Value.slice va' q vc').ownBlock = some g ∨ wr.heap.size ≤ g) := hloc3; clear hloc3 e2))
      refine ⟨⟨k + 1, .slice a3 (q + s.size) c3, by omega, rfl, E2.out.set 0 _, ?_, fun g hg => ?_, ?_⟩, by simp; omega⟩
      · rw [HQ.out.1, HQ.out.2]
        exact row_set hr3 E2.out 0 _
      · rcases HL3.out g hg with h | h
        · exact HLoc.out g h
        · have := hu.size; exact .inr (by omega)
      · refine ⟨hg3.os.trans hu.os, hg3.tape.trans hu.tape, hg3.output.trans hu.output, by have := hu.size; have := hg3.size; simp; omega, fun i hi hib hiv => ?_⟩
        rw [heap_setCell_other w3 ⟨b, 0, none⟩ i _ hib, hg3.block i (by have := hu.size; omega) (fun e => ?_)]
        · exact hu.block i hi hib hiv
        · rcases HLoc.out i e.symm with h | h
          · exact hiv h.symm
          · omega
    · have htk : ps.take k = ps := List.take_of_length_le (by have := M.out; omega)
      rw [htk] at hr
      clear htk
      have HF : Hid (∃ v', Holds wr b [v', f] 61 ∧ wr.ownsRow N 5 1 v' (bs ++ joins ps).length ((bs ++ joins ps).map byteV) ∧ (∀ g, v'.ownBlock = some g → v.ownBlock = some g ∨ w.heap.size ≤ g) ∧ Wrt b v w wr) := ⟨v', hH, hr, HLoc.out, hu⟩
      clear hr hH hu
      go_wp2
      go_end0
      exact ⟨rfl, HF.out⟩
end Go.Proofs.Ythaknjbcmflegaa
