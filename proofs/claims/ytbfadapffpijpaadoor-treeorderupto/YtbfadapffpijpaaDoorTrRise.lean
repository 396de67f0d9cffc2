/- What package tree's rising answers: a leaf's keys with their sums, rising. -/
import Derived.Test.YtbfadapffpijpaaDoorTrLen
import Derived.Test.YtbfadapffpijpaaDoorTrApp
import Derived.Maps.OwnOps
namespace Go.Proofs.YtbfadapffpijpaaDoor
open Go.RowKit Go.Maps Go.WideMaps Go.Sort Go.Shelf

theorem built46' (s : ByteArray) (a0 a1 a2 a3 a4 a5 a6 a7 a8 a9 a10 a11 a12 a13 a14 a15 a16 a17 a18 a19 a20 a21 a22 a23 a24 a25 a26 a27 a28 a29 a30 a31 : UInt8) : Tryd.prog.built 46 [(0, .string s), (1, .agg ([a0, a1, a2, a3, a4, a5, a6, a7, a8, a9, a10, a11, a12, a13, a14, a15, a16, a17, a18, a19, a20, a21, a22, a23, a24, a25, a26, a27, a28, a29, a30, a31].map byteV).toArray)] = some (.string s :: [a0, a1, a2, a3, a4, a5, a6, a7, a8, a9, a10, a11, a12, a13, a14, a15, a16, a17, a18, a19, a20, a21, a22, a23, a24, a25, a26, a27, a28, a29, a30, a31].map byteV).toArray := by kernel_rfl
theorem built46 (s : ByteArray) (l : List UInt8) (h : l.length = 32) : Tryd.prog.built 46 [(0, .string s), (1, .agg (l.map byteV).toArray)] = some (.string s :: l.map byteV).toArray := by
  match l, h with
  | [a0, a1, a2, a3, a4, a5, a6, a7, a8, a9, a10, a11, a12, a13, a14, a15, a16, a17, a18, a19, a20, a21, a22, a23, a24, a25, a26, a27, a28, a29, a30, a31], _ => exact built46' s a0 a1 a2 a3 a4 a5 a6 a7 a8 a9 a10 a11 a12 a13 a14 a15 a16 a17 a18 a19 a20 a21 a22 a23 a24 a25 a26 a27 a28 a29 a30 a31
/-- A key with its sum, in memory. -/
def cellS (p : List UInt8 × Fl) : List Value := .string (strL p.1) :: p.2.bytes.map byteV
def cellsS (l : Fs) : List Value := l.flatMap cellS
theorem cellS_len (p : List UInt8 × Fl) (h : p.2.bytes.length = 32) : (cellS p).length = 33 := by simp [cellS, h]
theorem cellsS_len (l : Fs) (h : ∀ p ∈ l, p.2.bytes.length = 32 ∧ p.2.firm = 0) : (cellsS l).length = l.length * 33 := by
  induction l with
  | nil => rfl
  | cons p r ih =>
    rw [cellsS, List.flatMap_cons, List.length_append, cellS_len p (h p (List.mem_cons_self ..)).1, ← cellsS, ih (fun q hq => h q (List.mem_cons_of_mem _ hq)), List.length_cons]; omega
theorem cellsS_take (l : Fs) (k : Nat) (p : List UInt8 × Fl) (h : l[k]? = some p) : cellsS (l.take (k + 1)) = cellsS (l.take k) ++ cellS p := by
  rw [List.take_add_one, h, cellsS, List.flatMap_append]
  simp [cellsS]
theorem cellS_one (p : List UInt8 × Fl) : ∀ u ∈ cellS p, u.oneCell' = true := fun u hu => by
  rcases List.mem_cons.1 hu with rfl | hu
  · rfl
  · exact byteV_one _ u hu
/-- The names of a leaf's keys, rising. -/
theorem rising_sorted {l : Fs} (h : Rising l) {ss : List (List UInt8)} (hp : ss.Perm (l.map Prod.fst)) : ss.mergeSort (fun x y => decide (x ≤ y)) = l.map Prod.fst := by
  have tr : ∀ a b c : List UInt8, leB a b = true → leB b c = true → leB a c = true := fun a b c h1 h2 => by simp only [leB, decide_eq_true_eq] at *; exact List.le_trans h1 h2
  have to : ∀ a b : List UInt8, (leB a b || leB b a) = true := fun a b => by simp only [leB, Bool.or_eq_true, decide_eq_true_eq]; exact List.le_total a b
  refine List.Perm.eq_of_pairwise (le := fun a b => leB a b = true) (fun a b _ _ h1 h2 => ?_) (List.pairwise_mergeSort tr to ss) (List.pairwise_map.2 (h.imp fun {p q} hlt => ?_)) ((List.mergeSort_perm ss leB).trans hp)
  · simp only [leB, decide_eq_true_eq] at h1 h2
    exact List.le_antisymm h1 h2
  · simp only [leB, decide_eq_true_eq]
    exact List.le_of_lt hlt
theorem keys_call (v : Value) (kv : Fs) (w : World) (h : MapIs w v kv) : Calls Tryd.prog 40 #[v] w fun e w' => e = .returned (.func (.func 55) #[] #[.pointer (some ⟨w.heap.size, 0, none⟩)]) ∧ w' = w.alloc (.cells #[v] 24) := by
  rcases h with ⟨rfl, _⟩ | ⟨mb, rfl, _⟩
  · exact callsIn_wide.1 (Tryd.maps_Keys_59 none w)
  · exact callsIn_wide.1 (Tryd.maps_Keys_59 (some mb) w)
theorem sorted_call (v : Value) (kv : Fs) (hr : Rising kv) (hl : kv.length ≤ 8388608) (w : World) (h : MapIs w v kv) : Calls Tryd.prog 39 #[.func (.func 55) #[] #[.pointer (some ⟨w.heap.size, 0, none⟩)]] (w.alloc (.cells #[v] 24)) fun e w' => ∃ u, e = .returned u ∧ w'.ownsRow w.heap.size 9 1 u kv.length ((kv.map Prod.fst).map encStr) ∧ Below w.heap.size w w' := by
  rcases h with ⟨rfl, rfl⟩ | ⟨mb, rfl, n, D, hown, hat, hhas⟩
  · refine (callsIn_wide.1 (Tryd.slices_Sorted_keys_nil_58_59 w)).mono ?_
    rintro e w' ⟨u, ss, rfl, hS, hrow, hnil, hb⟩
    refine ⟨u, rfl, ?_, ((Below.refl _ w).alloc (Nat.le_refl _) _).trans (hb.mono (by simp))⟩
    rw [hnil.2 hS]
    exact World.ownsRow_nil _ _ _ _
  · have hsz : Maps.size D ≤ 8388608 := by rw [keys_size hown hr hhas]; exact hl
    have hperm := keys_perm hown hr hhas
    refine (callsIn_wide.1 (Tryd.slices_Sorted_keys_58_59 mb n D sumElem w hown (by unfold maxLen; omega) (by omega))).mono ?_
    rintro e w' ⟨u, ss, rfl, hS, hrow, hnil, hb⟩
    have h1 := hS.trans hperm.symm
    rw [rising_sorted hr h1, h1.length_eq, List.length_map] at hrow
    exact ⟨u, rfl, ownsRow_base_a hrow (by simp), ((Below.refl _ w).alloc (Nat.le_refl _) _).trans (hb.mono (by simp))⟩
theorem row_slice {w : World} {base : Nat} {e : TypeId} {size : Nat} {v : Value} {n : Nat} {xs : List Value} (h : w.ownsRow base e size v n xs) : ∃ a c, v = .slice a n c := by
  rcases h.2 with ⟨rfl, h0⟩ | ⟨g, cap, cur, rfl, _⟩
  · exact ⟨_, _, by rw [h0]⟩
  · exact ⟨_, _, rfl⟩
theorem wpList_build_at {P : Program} {ops : Array Oper} {rest : List Oper} {o : Oper} {a : Act} {w : World} {Q : Exit → Act → World → Prop} (hgd : o.guard = none) (t : TypeId) (parts : List (Nat × Operand)) (ho : o.op = .build t parts.toArray) (cells : Array Value)
    (hf : P.built t (parts.map fun (i, x) => (i, a.eval x)) = some cells) (h : wpList P ops Q rest (a.put o.dst (.agg cells)) w) : wpList P ops Q (o :: rest) a w :=
  wpList_plain hgd fun K hK => by
    have hr := run_build (P := P) w t (parts.toArray.map fun (i, x) => (i, a.eval x)) cells (by simpa using hf)
    unfold Oper.wp execOp
    simp only [ho, Sem.run_bind, hr, Result.andThen_ok]
    exact hK _ _ h
theorem wpList_lookup_at {P : Program} {ops : Array Oper} {rest : List Oper} {o : Oper} {a : Act} {w : World} {Q : Exit → Act → World → Prop} (hgd : o.guard = none) (t : TypeId) (m k : Operand) (c : Bool) (ho : o.op = .lookup t m k c) (v : Value)
    (hr : (Instr.lookup t (a.eval m) (a.eval k) c).run P w = .ok v w) (h : wpList P ops Q rest (a.put o.dst v) w) : wpList P ops Q (o :: rest) a w :=
  wpList_plain hgd fun K hK => by
    unfold Oper.wp execOp
    simp only [ho, Sem.run_bind, hr, Result.andThen_ok]
    exact hK _ _ h
theorem wpList_buildSlice_at {P : Program} {ops : Array Oper} {rest : List Oper} {o : Oper} {a : Act} {w : World} {Q : Exit → Act → World → Prop} (hgd : o.guard = none) (t : TypeId) (n : Nat) (parts : List (Nat × Operand)) (ho : o.op = .buildSlice t n parts.toArray) (v : Value) (w' : World)
    (hr : (Instr.buildSlice t n (parts.map fun (i, x) => (i, a.eval x)).toArray).run P w = .ok v w') (h : wpList P ops Q rest (a.put o.dst v) w') : wpList P ops Q (o :: rest) a w :=
  wpList_plain hgd fun K hK => by
    have hr' : (Instr.buildSlice t n (parts.toArray.map fun (i, x) => (i, a.eval x))).run P w = .ok v w' := by rw [List.map_toArray]; exact hr
    unfold Oper.wp execOp
    simp only [ho, Sem.run_bind, hr', Result.andThen_ok]
    exact hK _ _ h
theorem slice46' (w : World) (s : ByteArray) (a0 a1 a2 a3 a4 a5 a6 a7 a8 a9 a10 a11 a12 a13 a14 a15 a16 a17 a18 a19 a20 a21 a22 a23 a24 a25 a26 a27 a28 a29 a30 a31 : UInt8) : (Instr.buildSlice 40 1 #[(0, .agg (.string s :: [a0, a1, a2, a3, a4, a5, a6, a7, a8, a9, a10, a11, a12, a13, a14, a15, a16, a17, a18, a19, a20, a21, a22, a23, a24, a25, a26, a27, a28, a29, a30, a31].map byteV).toArray)]).run Tryd.prog w = .ok (.slice (some ⟨w.heap.size, 0, none⟩) 1 1) (w.alloc (.cells (.string s :: [a0, a1, a2, a3, a4, a5, a6, a7, a8, a9, a10, a11, a12, a13, a14, a15, a16, a17, a18, a19, a20, a21, a22, a23, a24, a25, a26, a27, a28, a29, a30, a31].map byteV).toArray 46)) := by kernel_rfl
theorem slice46 (w : World) (s : ByteArray) (l : List UInt8) (h : l.length = 32) : (Instr.buildSlice 40 1 #[(0, .agg (.string s :: l.map byteV).toArray)]).run Tryd.prog w = .ok (.slice (some ⟨w.heap.size, 0, none⟩) 1 1) (w.alloc (.cells (.string s :: l.map byteV).toArray 46)) := by
  match l, h with
  | [a0, a1, a2, a3, a4, a5, a6, a7, a8, a9, a10, a11, a12, a13, a14, a15, a16, a17, a18, a19, a20, a21, a22, a23, a24, a25, a26, a27, a28, a29, a30, a31], _ => exact slice46' w s a0 a1 a2 a3 a4 a5 a6 a7 a8 a9 a10 a11 a12 a13 a14 a15 a16 a17 a18 a19 a20 a21 a22 a23 a24 a25 a26 a27 a28 a29 a30 a31
theorem own3_base {w : World} {base : Nat} {e : TypeId} {size : Nat} {v : Value} {n : Nat} {xs : List Value} (h : w.ownsRow base e size v n xs) (j : Nat) (hj : v.ownBlock = some j) : base ≤ j := (h.lt j hj).1
theorem full46 : (Tryd.prog.info? 46).map (fun i => (i.size, i.bytes)) = some (33, 48) := by kernel_rfl
theorem zero46 : (Tryd.prog.info? 46).bind (·.zero) = some (.agg (.string ⟨#[]⟩ :: zero32.map byteV).toArray) := by kernel_rfl
theorem inf46 : ∃ i, Tryd.prog.info? 46 = some i ∧ i.zero = some (.agg (.string ⟨#[]⟩ :: zero32.map byteV).toArray) ∧ i.size = 33 ∧ i.bytes = 48 := by
  have h1 := full46
  have h2 := zero46
  cases h : Tryd.prog.info? 46 with
  | none => rw [h] at h1; cases h1
  | some i =>
    rw [h] at h1 h2
    simp at h1
    exact ⟨i, rfl, h2, h1.1, h1.2⟩
theorem und40' : Tryd.prog.underlying 40 = some (.slice 46) := by kernel_rfl
theorem und44' : Tryd.prog.underlying 44 = some (.slice 9) := by kernel_rfl
set_option maxHeartbeats 1000000 in
set_option maxRecDepth 100000 in
theorem trising_any (v : Value) (kv : Fs) (hr : Rising kv) (hv : ∀ p ∈ kv, p.2.bytes.length = 32 ∧ p.2.firm = 0) (hk : ∀ p ∈ kv, p.1.length ≤ maxLen) (hl : kv.length ≤ 8388608) (w : World) (h : MapIs w v kv) :
    Calls Tryd.prog 30 #[v] w fun e w' => ∃ u, e = .returned u ∧ w'.ownsRow w.heap.size 46 33 u kv.length (cellsS kv) ∧ Below w.heap.size w w' := by
  obtain ⟨m, hm⟩ : ∃ m, w.heap.size = m := ⟨_, rfl⟩
  have hK : Hid (Calls Tryd.prog 40 #[v] w fun e w' => e = .returned (.func (.func 55) #[] #[.pointer (some ⟨w.heap.size, 0, none⟩)]) ∧ w' = w.alloc (.cells #[v] 24)) := keys_call v kv w h
  have hS : Hid (Calls Tryd.prog 39 #[.func (.func 55) #[] #[.pointer (some ⟨w.heap.size, 0, none⟩)]] (w.alloc (.cells #[v] 24)) fun e w' => ∃ u, e = .returned u ∧ w'.ownsRow w.heap.size 9 1 u kv.length ((kv.map Prod.fst).map encStr) ∧ Below w.heap.size w w') := sorted_call v kv hr hl w h
  have hM : Hid (∀ (W : World) (k : Nat) (p : List UInt8 × Fl), Below w.heap.size w W → kv[k]? = some p → (Instr.lookup 24 v (.string (strL p.1)) false).run Tryd.prog W = .ok (.agg (p.2.bytes.map byteV).toArray) W) := fun W k p hW hp => by
    have hmem : p ∈ kv := List.mem_of_getElem? hp
    have h1 : MapIs W v kv := h.same (fun x e => hW.block x (by
      rcases h with ⟨e2, _⟩ | ⟨mb, e2, hk⟩
      · rw [e2] at e; cases e
      · rw [e2] at e; cases e; exact hk.lt))
    have h2 := h1.look (strL p.1) (by rw [strL_size]; exact hk p hmem) false
    rw [strL_data, mem_get hr hmem] at h2
    exact h2
  obtain ⟨i46, f46, hz46, hs46, hb46⟩ := inf46
  have F46 : Hid (Tryd.prog.info? 46 = some i46) := f46
  have hB : Hid (∀ k p, kv[k]? = some p → Tryd.prog.built 46 [(0, .string (strL p.1)), (1, .agg (p.2.bytes.map byteV).toArray)] = some (cellS p).toArray) := fun k p hp => built46 _ _ (hv p (List.mem_of_getElem? hp)).1
  obtain ⟨ln, hln⟩ : ∃ ln, kv.length = ln := ⟨_, rfl⟩
  have HM : Hid (kv.length = ln) := hln
  rw [hln] at hl hS ⊢
  rw [hm] at hS hM ⊢
  clear f46 h hk hr
  go_enter Tryd.func30, Tryd.ntmps30
  go_wp2_with (first
    | (go_at_call 40; refine hK.out.mono ?_; rintro e w1 ⟨rfl, rfl⟩; rw [hm])
    | (go_at_call 39; refine hS.out.mono ?_; rintro e w2 ⟨u, rfl, hrow, b2⟩; obtain ⟨au, cu, rfl⟩ := row_slice hrow))
  obtain ⟨H, hH⟩ : ∃ H, w2.heap.size = H := ⟨_, rfl⟩
  have hmH : m ≤ H := by have := b2.size; omega
  have C2 : Hid (∀ (W : World) (k : Nat) (p : List UInt8 × Fl), Below H w2 W → kv[k]? = some p → ∃ g, au = some ⟨g, 0, none⟩ ∧ W.cell? ⟨g, k, none⟩ = some (.string (strL p.1))) := fun W k p hW hp => by
    have hk : k < kv.length := (List.getElem?_eq_some_iff.1 hp).1
    rcases hrow.2 with ⟨_, h0⟩ | ⟨g, cap, cur, e, _⟩
    · omega
    · cases e
      have hc := hrow.cellAt k (by rw [Nat.mul_one, ← HM.out]; exact hk)
      rw [List.getElem?_map, List.getElem?_map, hp] at hc
      exact ⟨g, rfl, by rw [hW.cell (p := ⟨g, k, none⟩) (hH ▸ World.block_lt_of_cell? w2 _ hc)]; exact hc⟩
  have HE : Hid (∀ (u : Value) (W : World), W.ownsRow H 46 33 u ln (cellsS (kv.take ln)) → W.ownsRow m 46 33 u ln (cellsS kv)) := fun u W q => by
    rw [← HM.out, List.take_length] at q
    rw [← HM.out]
    exact ownsRow_base_a q hmH
  have hv' : Hid (∀ p ∈ kv, p.2.bytes.length = 32 ∧ p.2.firm = 0) := hv
  clear hrow hv hln
  go_loopw [3, 10] (fun tv c wr => ∃ k : Nat, k ≤ ln ∧ c = .int .i64 (k : Int) ∧ wr.ownsRow H 46 33 tv k (cellsS (kv.take k)) ∧ Below H w2 wr) (fun _ c _ => ln - (intOf c).toNat)
  case atStart => exact ⟨0, by omega, rfl, World.ownsRow_nil _ _ _ _, Below.refl _ _⟩
  case round =>
    obtain ⟨k, hk, rfl, hown, hB2⟩ := hrel
    by_cases hlt : k < ln
    · obtain ⟨p, hp⟩ : ∃ p, kv[k]? = some p := ⟨_, List.getElem?_eq_getElem (by rw [HM.out]; exact hlt)⟩
      obtain ⟨g, rfl, hc⟩ := C2.out _ k p hB2 hp
      have hle : H ≤ wr.heap.size := by have := hB2.size; omega
      have hlk := hM.out wr k p (b2.trans (hB2.mono hmH)) hp
      have hbd := hB.out k p hp
      have hcl : Hid ((cellS p).length = 33) := cellS_len p (hv'.out p (List.mem_of_getElem? hp)).1
      have htk : Hid (cellsS (kv.take (k + 1)) = cellsS (kv.take k) ++ cellS p) := cellsS_take kv k p hp
      have hone : Hid (∀ u ∈ cellS p, u.oneCell' = true) := cellS_one p
      obtain ⟨at_, ct, rfl⟩ := row_slice hown
      have i0 : (0 : Int) ≤ (k : Int) := by omega
      have i1 : (k : Int) < (ln : Int) := by omega
      have HLK : Hid ((Instr.lookup 24 v (.string (strL p.1)) false).run Tryd.prog wr = .ok (.agg (p.2.bytes.map byteV).toArray) wr) := hlk
      clear hlk
      have hBS : (Instr.buildSlice 40 1 #[(0, .agg (cellS p).toArray)]).run Tryd.prog wr = .ok (.slice (some ⟨wr.heap.size, 0, none⟩) 1 1) (wr.alloc (.cells (cellS p).toArray 46)) := slice46 wr _ _ (hv'.out p (List.mem_of_getElem? hp)).1
      have hnc : ∀ (j : Nat) u, (cellS p)[j]? = some u → (wr.alloc (.cells (cellS p).toArray 46)).cell? ⟨wr.heap.size, j, none⟩ = some u := fun j u hu => (holds_new wr (cellS p) 46).at j u hu
      go_wp2_with (at_lookup; refine wpList_lookup_at rfl 24 (.tmp 16) (.tmp 17) false rfl (.agg (p.2.bytes.map byteV).toArray) HLK.out ?_; refine wpList_build_at rfl 46 [(0, .tmp 15), (1, .tmp 18)] rfl (cellS p).toArray hbd ?_; refine wpList_buildSlice_at rfl 40 1 [(0, .tmp 19)] rfl _ _ hBS ?_; refine wpList_append_src rfl (.tmp 14) (.tmp 20) 40 rfl H 46 i46 _ 33 48 und40' F46.out hz46 hs46 hb46 (by rfl) (by omega) _ k _ (hown.alloc _) rfl (cellS p) _ 1 1 rfl (by rw [hcl.out]) (fun _ => ⟨_, rfl, fun j u hu => by rw [Addr.add_mid, Nat.zero_add]; exact hnc j u hu⟩) hone.out (by unfold maxLen; omega) (by omega) (by rw [World.size_alloc]; omega) ?_; intro v3 w3 own3 gr3 _)
      have hB3 : Below H w2 w3 := (hB2.alloc hle (.cells (cellS p).toArray 46)).grown gr3 (by rw [World.size_alloc]; omega) (fun j e => (own3_base hown j e))
      rw [← htk.out] at own3
      exact ⟨⟨k + 1, by omega, by go_num, own3, hB3⟩, by simp [intOf]; omega⟩
    · obtain rfl : k = ln := by omega
      have := HE.out _ _ hown
      have hbB : Below m w wr := b2.trans (hB2.mono hmH)
      go_wp2
      go_ret
      exact ⟨_, rfl, this, hbB⟩
end Go.Proofs.YtbfadapffpijpaaDoor
