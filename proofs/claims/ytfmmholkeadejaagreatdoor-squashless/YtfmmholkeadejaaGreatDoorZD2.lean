/- Used, Fits, LayIt, File, Find. -/
import Derived.Laws.IdiomRangeMap
import Derived.Test.YtfmmholkeadejaaGreatDoorZNames
/- How many bytes all files have. -/
namespace Go.Proofs.YtfmmholkeadejaaGreatDoor
open Go.RowKit Go.Maps Go.WideMaps

theorem used_empty {w : World} {N : Lo} {fs : Fs} {A : List UInt8 → Option Nat} {V : List UInt8 → Value} (hF : FilesAt w N fs A V) (hn : ∀ k, A k = none) : fs = [] := by
  cases fs with
  | nil => rfl
  | cons p r =>
    have : get (p :: r) p.1 = some p.2 := by rw [get, if_pos rfl]
    obtain ⟨b, hb, _⟩ := hF.file p.1 p.2 this
    rw [hn] at hb; cases hb
theorem invK9 (key : Value) (kl : Lit) (h : keyOf Tryz.prog 9 key = some kl) : ∃ x : List UInt8, key = encStr x := by
  obtain ⟨x, hx, _⟩ := Maps.keyOf_str und9 h
  exact ⟨x, hx⟩
theorem invV124 (v : Value) (y : DataW Unit × List MemPlace) (h : ptrElem v = some y) : ∃ o, v = tokV o := by
  obtain ⟨o, h, _⟩ := ptr_inv h
  exact ⟨o, h⟩
theorem used_le_mem {l : Fs} {k : List UInt8} {f : Fl} (h : get l k = some f) : f.bytes.length ≤ used l := by
  induction l with
  | nil => simp [get] at h
  | cons p r ih =>
    rw [get] at h
    rw [used]
    split at h
    · cases h; omega
    · have := ih h; omega

/-- The step of a range over the map of files. -/
theorem wpList_next_files {A : List UInt8 → Option Nat} (w : World) {ops : Array Oper} {rest : List Oper} {o : Oper} {a : Act} {Q : Exit → Act → World → Prop} (hg : o.guard = none) (it : Operand) (hop : o.op = Op.next it false)
    (b r n : Nat) (D : DataW Unit) (hAt : ∀ k, D.atKey (.string k) .nil = tok (A k)) (hHas : ∀ k, has D (.string k) = (A k).isSome) (left : Lit → Bool) (cnt : Nat) (hit : a.eval it = .pointer (some ⟨r, 0, none⟩)) (h : w.ranges Tryz.prog 9 ptrElem b r n D left cnt)
    (hDone : cnt = 0 → (∀ kl, left kl = false) → wpList Tryz.prog ops Q rest (a.put o.dst (.tuple #[.bool false])) w)
    (hMore : ∀ (x : List UInt8) (c : Nat) (w' : World) (cnt' : Nat), left (.string x) = true → A x = some c → w'.ranges Tryz.prog 9 ptrElem b r n D (fun z => left z && !z.sameKey (.string x)) cnt' → cnt' < cnt →
      w.grownBy w' (some r) → w'.heap.size = w.heap.size → (Instr.entry (.pointer (some ⟨r, 0, none⟩))).run Tryz.prog w' = .ok (.tuple #[encStr x, .pointer (some ⟨c, 0, none⟩)]) w' → wpList Tryz.prog ops Q rest (a.put o.dst (.tuple #[.bool true, encStr x, .pointer (some ⟨c, 0, none⟩)])) w') :
    wpList Tryz.prog ops Q (o :: rest) a w :=
  wpList_next_ranges w hg it hop 9 law9 ptrElem encStr tokV invK9 invV124 b r n D left cnt hit h hDone (fun x c kl y w' cnt' hkey hlk hv hat hrg hlt hgr hsz hen => by
    obtain ⟨x', ex, rfl, _⟩ := Maps.keyOf_str und9 hkey
    obtain rfl : x = x' := encStr_inj ex
    have h1 : A x = c := by
      rw [ptr_tok] at hv
      have h2 := hat .nil
      rw [hAt] at h2
      have h3 : y = (tok c, []) := (Option.some.inj hv).symm
      rw [h3] at h2
      exact tok_inj h2
    have h2 : (A x).isSome = true := by rw [← hHas]; exact has_true_of_atKey hat
    cases c with
    | none => rw [h1] at h2; cases h2
    | some c => exact hMore x c w' cnt' hlk h1 hrg hlt hgr hsz hen)

set_option maxHeartbeats 1600000 in
set_option maxRecDepth 100000 in
theorem used_some (N : Lo) (d : Nat) (S : Dk) (w : World) (h : DiskAt w N d S) : Calls Tryz.prog 50 #[.pointer (some ⟨d, 0, none⟩)] w fun e w' => e = .returned (.int .i64 (used S.fs : Int)) ∧ Below w.heap.size w w' := by
  obtain ⟨mv, st, A, V, hH, hN, hM, hF, hS⟩ := h
  have c0 := hH.at 0 _ rfl
  rcases hM with ⟨rfl, hn⟩ | ⟨mb, n, D, rfl, hNm, hown, hat, hhas⟩
  · have e : S.fs = [] := used_empty hF hn
    have hu : used S.fs = 0 := by rw [e]; rfl
    rw [hu]
    have hrg := run_range_nilMap (P := Tryz.prog) w 120 9 124 und120
    have hnx : ∀ ty, (Instr.next (.pointer (some ⟨w.heap.size, 0, none⟩)) false ty).run Tryz.prog (w.alloc (.mapIter none 0 #[] 0)) = _ := fun ty => run_next_nilMap w ty 0 0 #[]
    clear hF hS hn e hu
    go_enter Tryz.func50, Tryz.ntmps50
    go_wp2_with fail
    go_loopw [3] (fun v wr => v = .int .i64 0 ∧ wr = w.alloc (.mapIter none 0 #[] 0)) (fun _ _ => 0)
    case atStart => exact ⟨rfl, rfl⟩
    case round =>
      obtain ⟨rfl, rfl⟩ := hrel
      go_wp2
      go_ret
      exact ⟨rfl, (Below.refl _ _).alloc (Nat.le_refl _) _⟩
  · obtain ⟨H, hHs⟩ : ∃ H, w.heap.size = H := ⟨_, rfl⟩
    have HH : Hid (w.heap.size = H) := hHs
    rw [hHs]
    have hUb := hS.used
    have hRise : Hid (Rising S.fs) := hS.rise
    have hFF : Hid (FilesAt w N S.fs A V) := hF
    have hAt : Hid (∀ k, D.atKey (.string k) .nil = tok (A k)) := hat
    have hHas : Hid (∀ k, has D (.string k) = (A k).isSome) := hhas
    clear hF hat hhas hS
    go_enter Tryz.func50, Tryz.ntmps50
    go_wp2_with (first
      | (at_range; refine wpList_range_own _ rfl _ 120 rfl 9 124 law9 und120 ptrElem mb n D rfl hown ?_; intro w0 hrg0 hg0 hs0; rw [HH.out] at hrg0)
      | go_in)
    go_frame
    rw [hHs]
    go_loopw [3] (fun v wr => ∃ left cnt, v = .int .i64 (sumOf (fun k => !left (.string k)) S.fs : Int) ∧ wr.ranges Tryz.prog 9 ptrElem mb H n D left cnt ∧ Below H w wr) (fun _ wr => wr.rangeLeft mb H)
    case atStart =>
      refine ⟨_, _, ?_, hrg0, ⟨hg0.os, hg0.tape, hg0.output, hg0.size, fun k hk => hg0.block k (by omega) (by simp)⟩⟩
      rw [sumOf_none]
      · rfl
      · intro p hp
        have : has D (.string p.1) = true := by rw [hHas.out, hFF.out.some_iff, mem_get hRise.out hp]; rfl
        rw [this]; rfl
    case round =>
      clear hrg0 hg0 hs0
      obtain ⟨left, cnt, rfl, hrg, hb⟩ := hrel
      go_wp2_with (first
        | (at_next; refine wpList_next_files _ rfl _ rfl mb H n D hAt.out hHas.out _ _ rfl hrg ?_ ?_)
        | go_in)
      · intro _ hl0
        have hfin : Hid (sumOf (fun k => !left (.string k)) S.fs = used S.fs) := sumOf_all _ (fun k => by rw [hl0]; rfl) _
        go_wp2
        go_ret
        exact ⟨by rw [hfin.out]; rfl, hb⟩
      · intro x c w1 cnt1 hlx hAx hrg1 hlt hg1 hs1 hen
        obtain ⟨f, hf⟩ : ∃ f, get S.fs x = some f := by
          cases hg : get S.fs x with
          | none => rw [hFF.out.gone x hg] at hAx; cases hAx
          | some f => exact ⟨f, rfl⟩
        obtain ⟨c', hc', _, hHc, hrc, _⟩ := hFF.out.file x f hf
        obtain rfl : c' = c := by rw [hAx] at hc'; exact (Option.some.inj hc').symm
        have hb1 : Below H w w1 := hb.trans ⟨hg1.os, hg1.tape, hg1.output, hg1.size, fun k hk => hg1.block k (by have := hb.size; have := HH.out; omega) (fun e => by cases e; omega)⟩
        have hcl : c' < H := by have := hHc.lt; have := HH.out; omega
        have hHc1 := hHc.below hb1 hcl
        obtain ⟨sa, sc, hv⟩ := row_form hrc
        rw [hv] at hHc1
        have cc := hHc1.at 0 _ rfl
        have hstep := sumOf_step hRise.out (fun k => !left (.string k)) (fun k => !(left (.string k) && !(Lit.string k).sameKey (.string x))) x f hf (by rw [hlx]; rfl) (by rw [hlx]; simp [Lit.sameKey]) (fun k hk => by simp [Lit.sameKey, hk])
        have hle := sumOf_le (fun k => !(left (.string k) && !(Lit.string k).sameKey (.string x))) S.fs
        have Hstep : Hid (sumOf (fun k => !(left (.string k) && !(Lit.string k).sameKey (.string x))) S.fs = sumOf (fun k => !left (.string k)) S.fs + f.bytes.length) := hstep
        rw [hstep] at hle
        generalize sumOf (fun k => !left (.string k)) S.fs = q at *
        generalize f.bytes.length = fl at *
        clear hstep hHc hHc1 hrc hf hs1 hv
        go_wp2_with (go_at_call 100; refine (size_any c' sa fl sc _ cc).mono ?_; rintro e w2 ⟨rfl, rfl⟩)
        go_roundw
        case rel => exact ⟨_, cnt1, by rw [Hstep.out]; rfl, hrg1, hb1⟩
        case measure => rw [hrg1.left_eq, hrg.left_eq]; exact hlt
end Go.Proofs.YtfmmholkeadejaaGreatDoor

/- Whether parts fit into the room. -/
namespace Go.Proofs.YtfmmholkeadejaaGreatDoor
open Go.RowKit Go.Maps Go.WideMaps

def lens : List ByteArray → Nat
  | [] => 0
  | s :: r => s.size + lens r
theorem lens_append (a b : List ByteArray) : lens (a ++ b) = lens a + lens b := by
  induction a with
  | nil => simp [lens]
  | cons s r ih => simp only [List.cons_append, lens, ih]; omega
theorem lens_take (l : List ByteArray) (k : Nat) (s : ByteArray) (h : l[k]? = some s) : lens (l.take (k + 1)) = lens (l.take k) + s.size := by
  rw [List.take_add_one, h, lens_append]
  simp [lens]
theorem lens_take_le (l : List ByteArray) (k : Nat) : lens (l.take k) ≤ lens l := by
  have := lens_append (l.take k) (l.drop k)
  rw [List.take_append_drop] at this
  omega
def fitB (S : Dk) (ps : List ByteArray) : Bool := decide (used S.fs + lens ps ≤ S.room)

set_option maxHeartbeats 1600000 in
set_option maxRecDepth 100000 in
theorem fits_some (N : Lo) (d : Nat) (S : Dk) (ps : List ByteArray) (hps : ∀ s ∈ ps, s.size ≤ 140737488355328) (hl : ps.length < 9223372036854775808) (a : Option Addr) (c : Nat) (w : World) (h : DiskAt w N d S) (ha : StrsAt w N a ps) :
    Calls Tryz.prog 78 #[.pointer (some ⟨d, 0, none⟩), .slice a ps.length c] w fun e w' => e = .returned (.bool (fitB S ps)) ∧ Below w.heap.size w w' := by
  have hU : Hid (Calls Tryz.prog 50 #[.pointer (some ⟨d, 0, none⟩)] w.drew fun e w' => e = .returned (.int .i64 (used S.fs : Int)) ∧ Below w.drew.heap.size w.drew w') := used_some N d S w.drew h.drew
  obtain ⟨H, hHs⟩ : ∃ H, w.heap.size = H := ⟨_, rfl⟩
  have HH : Hid (w.heap.size = H) := hHs
  rw [hHs]
  obtain ⟨mv, st, A, V, hH, hN, hM, hF, hS⟩ := h
  have c1 := hH.at 1 _ rfl
  have hdl : Hid (d < w.drew.heap.size) := hH.lt
  have hr := hS.room
  have hu := hS.used
  have hfit : Hid (fitB S ps = decide (used S.fs + lens ps ≤ S.room)) := rfl
  generalize hF1 : fitB S ps = F1 at *
  generalize S.room = R at *
  generalize used S.fs = U at *
  have hw1 : IntKind.i64.wrap ((R : Int) - (U : Int)) = (R : Int) - (U : Int) := by rw [wrap_i64]; omega
  have Hps : Hid (∀ s ∈ ps, s.size ≤ 140737488355328) := hps
  have Ha : Hid (StrsAt w N a ps) := ha
  obtain ⟨m, hm⟩ : ∃ m, ps.length = m := ⟨_, rfl⟩
  have M : Hid (ps.length = m) := hm
  rw [hm] at hl ⊢
  clear hm hps ha hM hF hS hF1 hHs
  go_enter Tryz.func78, Tryz.ntmps78
  go_wp2_with fail
  go_region_with (go_at_call 50; refine hU.out.mono ?_; rintro e w2 ⟨rfl, q2⟩; have c1' : w2.cell? ⟨d, 1, none⟩ = some (.int .i64 (R : Int)) := (World.cell?_of_block (q2.block d hdl.out)).trans c1)
  all_goals
    have q2' : Below H w.drew w2 := by have := q2; rw [show w.drew.heap.size = H from HH.out] at this; exact this
    have b2 : Below H w w2 := (Below.refl H w).drew.trans q2'
    clear q2 q2'
    have Ha2 : Hid (StrsAt w2 N a ps) := Ha.out.dupd (DUpd.ofBelow (by rw [HH.out]; exact b2))
    go_wp2_with fail
    go_loopw [5, 17] (fun v c wr => ∃ (k : Nat) (L : Int), k ≤ m ∧ c = .int .i64 (k : Int) ∧ v = .int .i64 L ∧ L = (R : Int) - (U : Int) - (lens (ps.take k) : Int) ∧ -16777216 ≤ L ∧ L ≤ 16777216 ∧ wr = w2) (fun _ c _ => m - (intOf c).toNat)
    case atStart => exact ⟨0, _, by omega, rfl, rfl, by simp [lens], by omega, by omega, rfl⟩
    case round =>
      obtain ⟨k, L, hk, rfl, rfl, hL, hL1, hL2, rfl⟩ := hrel
      have HL : Hid (L = (R : Int) - (U : Int) - (lens (ps.take k) : Int)) := hL
      clear hL
      by_cases hlt : k < m
      · obtain ⟨s, hs⟩ : ∃ s, ps[k]? = some s := ⟨ps[k]'(by have := M.out; omega), List.getElem?_eq_getElem _⟩
        have hsz := Hps.out s (List.mem_of_getElem? hs)
        have hst := lens_take ps k s hs
        rcases Ha2.out with h0 | ⟨g, o, rfl, _, _, hc⟩
        · have := M.out; omega
        have ck := hc k s hs
        have Hst : Hid (lens (ps.take (k + 1)) = lens (ps.take k) + s.size) := hst
        clear hst hc hs
        by_cases hgt : L < (s.size : Int)
        · have Hfin : Hid (F1 = false) := by
            show F1 = false
            rw [hfit.out, decide_eq_false_iff_not]
            have h1 := lens_take_le ps (k + 1)
            have h2 := Hst.out
            have h3 := HL.out
            omega
          go_wp2
          go_ret
          exact ⟨by rw [Hfin.out]; rfl, b2⟩
        · go_wp2
          exact ⟨⟨k + 1, L - (s.size : Int), by omega, rfl, rfl, by rw [Hst.out, HL.out]; omega, by omega, by omega, trivial⟩, by simp; omega⟩
      · have Hfin : Hid (F1 = decide (0 ≤ L)) := by
          show F1 = _
          rw [hfit.out]
          have h3 := HL.out
          rw [List.take_of_length_le (by have := M.out; omega)] at h3
          apply decide_eq_decide.2
          omega
        go_wp2
        go_ret
        exact ⟨by rw [Hfin.out]; rfl, b2⟩
end Go.Proofs.YtfmmholkeadejaaGreatDoor

/- Bytes are laid behind a file's. -/
namespace Go.Proofs.YtfmmholkeadejaaGreatDoor
open Go.RowKit Go.Maps Go.WideMaps

/-- A text is appended, and where the new row lies. -/
theorem append_str_at {P : Program} (w : World) (base : Nat) (t u ty e : TypeId) (i : TypeInfo) (ht : P.underlying t = some (.slice e)) (hu : P.underlying u = some .string) (hi : P.info? e = some i) (hz : i.zero = some (.int .u8 0))
    (hsize : i.size = 1) (hby : i.bytes = 1) (v : Value) (n : Nat) (xs : List Value) (hown : w.ownsRow base e 1 v n xs) (s : ByteArray) (h63 : n + s.size ≤ maxLen) (hbytes : n + s.size ≤ 140737488355328) (hbase : base ≤ w.heap.size) :
    ∃ v' w', (Builtin.append_ #[t, u] ty #[v, .string s]).run P w = .ok v' w' ∧ w'.ownsRow base e 1 v' (n + s.size) (xs ++ Lib.strCells s) ∧ w.grownBy w' v.ownBlock ∧ ∀ g, v'.ownBlock = some g → v.ownBlock = some g ∨ w.heap.size ≤ g := by
  obtain ⟨v', w', hr, ho, hg, _⟩ := Lib.run_append_own_string (P := P) w base t u ty e i ht hu hi hz hsize hby v n xs hown s h63 hbytes hbase
  refine ⟨v', w', hr, ho, hg, fun g hgb => ?_⟩
  rcases hown.2 with ⟨rfl, rfl⟩ | ⟨g0, cap, cur, rfl, hbg, hg0, hnc, hcm, hcs, htake⟩
  · have hx : xs = [] := List.eq_nil_of_length_eq_zero (by simpa using hown.1)
    subst hx
    obtain ⟨v2, w2, hr2, ho2, _⟩ := Lib.run_append_own_string (P := P) w w.heap.size t u ty e i ht hu hi hz hsize hby (.slice none 0 0) 0 [] (World.ownsRow_nil _ _ _ _) s h63 hbytes (Nat.le_refl _)
    rw [hr] at hr2
    injection hr2 with e1 e2
    subst e1
    exact .inr (ho2.lt g hgb).1
  · by_cases hroom : n + s.size ≤ cap
    · have hr2 := Lib.run_append_room_string (P := P) w t u ty e i ht hu hi hsize g0 n cap cur hg0 s hroom (by have : cur.size = cap * 1 := hcs; omega)
      rw [hr] at hr2
      injection hr2 with e1 e2
      subst e1
      exact .inl hgb
    · have hxl : xs.length = n := by simpa using hown.1
      have hr2 := Lib.run_append_grow_string (P := P) w t u ty e i (.int .u8 0) ht hu hi hz ⟨g0, 0, none⟩ n cap xs (by rw [hsize]; simpa using hxl) (hown.cells (g := g0) rfl) s (by omega) (by simp only [maxLen] at h63; omega) (by rw [hby]; exact growslice_fits (by omega) (by omega))
      rw [hr] at hr2
      injection hr2 with e1 e2
      subst e1
      obtain rfl : w.heap.size = g := by simpa [Value.ownBlock] using hgb
      exact .inr (Nat.le_refl _)
theorem wpList_append_str_at {P : Program} (w : World) {ops : Array Oper} {rest : List Oper} {o : Oper} {a : Act} {Q : Exit → Act → World → Prop} (hgd : o.guard = none) (sl x : Operand) (t u : TypeId)
    (ho : o.op = .call { callee := .builtin .append, args := #[sl, x], argTypes := #[t, u] })
    (base : Nat) (e : TypeId) (i : TypeInfo) (ht : P.underlying t = some (.slice e)) (hu : P.underlying u = some .string) (hi : P.info? e = some i) (hz : i.zero = some (.int .u8 0))
    (hsize : i.size = 1) (hby : i.bytes = 1)
    (v : Value) (n : Nat) (xs : List Value) (hs : a.eval sl = v) (hown : w.ownsRow base e 1 v n xs) (s : ByteArray) (hx : a.eval x = .string s)
    (h63 : n + s.size ≤ maxLen) (hbytes : n + s.size ≤ 140737488355328) (hbase : base ≤ w.heap.size)
    (h : ∀ a' c' w', w'.ownsRow base e 1 (.slice a' (n + s.size) c') (n + s.size) (xs ++ Lib.strCells s) → w.grownBy w' v.ownBlock → (∀ g, (Value.slice a' (n + s.size) c').ownBlock = some g → v.ownBlock = some g ∨ w.heap.size ≤ g) → wpList P ops Q rest (a.put o.dst (.slice a' (n + s.size) c')) w') : wpList P ops Q (o :: rest) a w := by
  refine wpList_plain hgd fun K hK => ?_
  obtain ⟨v', w', hr, h2, h3, h4⟩ := append_str_at (P := P) w base t u o.type e i ht hu hi hz hsize hby v n xs hown s h63 hbytes hbase
  obtain ⟨a', c', rfl⟩ : ∃ a' c', v' = .slice a' (n + s.size) c' := by
    rcases h2.2 with ⟨rfl, h0⟩ | ⟨g, cap, cur, rfl, _⟩
    · rw [h0]; exact ⟨_, _, rfl⟩
    · exact ⟨_, _, rfl⟩
  unfold Oper.wp execOp
  simp only [ho, resolve, invoke, builtin, Sem.run_bind, Sem.run_pure, Result.andThen_ok, List.map_toArray, List.map_cons, List.map_nil, hs, hx, hr]
  exact hK _ _ (h a' c' w' h2 h3 h4)

theorem full5 : (Tryz.prog.info? 5).map (fun i => (i.zero, i.size, i.bytes)) = some (some (.int .u8 0), 1, 1) := by kernel_rfl
theorem inf5 : ∃ i, Tryz.prog.info? 5 = some i ∧ i.zero = some (.int .u8 0) ∧ i.size = 1 ∧ i.bytes = 1 := by
  have := full5
  cases h : Tryz.prog.info? 5 with
  | none => simp [h] at this
  | some i =>
    simp [h] at this
    exact ⟨i, rfl, this.1, this.2.1, this.2.2⟩

/-- What behind a call that writes a file in block b, whose bytes v has, is told of the world. -/
structure Wrt (b : Nat) (v : Value) (w w' : World) : Prop where
  os : w'.os = w.os
  tape : w'.tape = w.tape
  output : w'.output = w.output
  size : w.heap.size ≤ w'.heap.size
  block : ∀ i, i < w.heap.size → i ≠ b → some i ≠ v.ownBlock → w'.heap[i]? = w.heap[i]?
theorem Wrt.refl (b : Nat) (v : Value) (w : World) : Wrt b v w w := ⟨rfl, rfl, rfl, Nat.le_refl _, fun _ _ _ _ => rfl⟩
theorem Wrt.dupd {N : Lo} {b : Nat} {v f : Value} {n : Nat} {xs : List Value} {w w' : World} (h : Wrt b v w w') (hN : N ≤ b) (hH : Holds w b [v, f] 128) (hr : w.ownsRow N 5 1 v n xs) : DUpd N w w' :=
  ⟨h.os, h.tape, h.output, h.size, fun i hi hc => h.block i hi
    (fun e => by
      subst e
      rcases hc with (hc | ⟨_, es, c, hc⟩) | ⟨cs, t, fr, hc, _, ht, _⟩
      · omega
      · unfold Holds at hH
        rw [hH] at hc
        cases hc
      · unfold Holds at hH
        rw [hH] at hc
        simp at hc
        exact ht hc.2.1.symm)
    (fun e => by
      rcases hr.2 with ⟨rfl, _⟩ | ⟨g, cap, cur, rfl, hb, hg, _⟩
      · cases e
      · obtain rfl : i = g := by simpa [Value.ownBlock] using e
        rcases hc with (hc | ⟨_, es, c, hc⟩) | ⟨cs, t, fr, hc, _, _, ht⟩
        · omega
        · rw [hg] at hc
          cases hc
        · rw [hg] at hc
          simp at hc
          exact ht hc.2.1.symm)⟩
theorem strCells_eq (s : ByteArray) : Lib.strCells s = s.data.toList.map byteV := rfl
/-- The bytes of parts. -/
def joins (ps : List ByteArray) : List UInt8 := ps.flatMap fun s => s.data.toList
theorem joins_take (l : List ByteArray) (k : Nat) (s : ByteArray) (h : l[k]? = some s) : joins (l.take (k + 1)) = joins (l.take k) ++ s.data.toList := by
  unfold joins
  rw [List.take_add_one, h, List.flatMap_append]
  simp
theorem joins_len (l : List ByteArray) : (joins l).length = lens l := by
  induction l with
  | nil => rfl
  | cons s r ih =>
    have : joins (s :: r) = s.data.toList ++ joins r := rfl
    rw [this, List.length_append, ih, lens]; rfl

theorem row_set {w : World} {N n b : Nat} {v : Value} {xs cs : List Value} (h : w.ownsRow N 5 1 v n xs) (hb : Holds w b cs 128) (i : Nat) (u : Value) : (w.setCell ⟨b, i, none⟩ u).ownsRow N 5 1 v n xs := by
  refine ⟨h.1, ?_⟩
  rcases h.2 with hn | ⟨g, cap, cur, e, hbg, hg, r⟩
  · exact .inl hn
  · refine .inr ⟨g, cap, cur, e, hbg, ?_, r⟩
    rw [heap_setCell_other w ⟨b, i, none⟩ g u (fun (e2 : g = b) => by subst e2; unfold Holds at hb; rw [hb] at hg; simp at hg)]
    exact hg
set_option maxHeartbeats 1600000 in
set_option maxRecDepth 100000 in
theorem layIt_any (N : Lo) (b : Nat) (v f : Value) (bs : List UInt8) (ps : List ByteArray) (a : Option Addr) (c : Nat) (w : World) (hH : Holds w b [v, f] 128) (hN : N ≤ b) (hr : w.ownsRow N 5 1 v bs.length (bs.map byteV))
    (ha : StrsAt w N a ps) (hlen : bs.length + lens ps ≤ 16777216) (hm : ps.length < 9223372036854775808) :
    Calls Tryz.prog 80 #[.pointer (some ⟨b, 0, none⟩), .slice a ps.length c] w fun e w' => e = .returned (.tuple #[]) ∧ ∃ v', Holds w' b [v', f] 128 ∧ w'.ownsRow N 5 1 v' (bs ++ joins ps).length ((bs ++ joins ps).map byteV) ∧ (∀ g, v'.ownBlock = some g → v.ownBlock = some g ∨ w.heap.size ≤ g) ∧ Wrt b v w w' := by
  obtain ⟨i5, f5, hz5, hs5, hb5⟩ := inf5
  have F5 : Hid (Tryz.prog.info? 5 = some i5) := f5
  have FZ : Hid (i5.zero = some (.int .u8 0)) := hz5
  have FS : Hid (i5.size = 1) := hs5
  have FB : Hid (i5.bytes = 1) := hb5
  clear f5 hz5 hs5 hb5
  have Ha : Hid (StrsAt w N a ps) := ha
  have HH : Hid (Holds w b [v, f] 128) := hH
  have HR : Hid (w.ownsRow N 5 1 v bs.length (bs.map byteV)) := hr
  have hbl := hH.lt
  obtain ⟨m, hmm⟩ : ∃ m, ps.length = m := ⟨_, rfl⟩
  have M : Hid (ps.length = m) := hmm
  rw [hmm] at hm ⊢
  clear hmm ha
  obtain ⟨va, vc, hv⟩ := row_form hr
  have c0 := hH.at 0 _ rfl
  go_enter Tryz.func80, Tryz.ntmps80
  go_wp2_with fail
  go_loopw [8] (fun c wr => ∃ (k : Nat) (v' : Value), k ≤ m ∧ c = .int .i64 (k : Int) ∧ Holds wr b [v', f] 128 ∧ wr.ownsRow N 5 1 v' (bs ++ joins (ps.take k)).length ((bs ++ joins (ps.take k)).map byteV) ∧ (∀ g, v'.ownBlock = some g → v.ownBlock = some g ∨ w.heap.size ≤ g) ∧ Wrt b v w wr) (fun c _ => m - (intOf c).toNat)
  case atStart => exact ⟨0, v, by omega, rfl, HH.out, by simpa [joins] using HR.out, fun g hg => .inl hg, Wrt.refl _ _ _⟩
  case round =>
    clear hH hr c0 hv
    obtain ⟨k, v', hk, rfl, hH, hr, hloc, hu⟩ := hrel
    have HLoc : Hid (∀ g, v'.ownBlock = some g → v.ownBlock = some g ∨ w.heap.size ≤ g) := hloc
    clear hloc
    by_cases hlt : k < m
    · obtain ⟨s, hs⟩ : ∃ s, ps[k]? = some s := ⟨ps[k]'(by have := M.out; omega), List.getElem?_eq_getElem _⟩
      have hst := joins_take ps k s hs
      have hle : (bs ++ joins (ps.take k)).length + s.size ≤ 16777216 := by
        rw [List.length_append, joins_len]
        have h1 := lens_take ps k s hs
        have h2 := lens_take_le ps (k + 1)
        omega
      rcases Ha.out.dupd (hu.dupd hN HH.out HR.out) with h0 | ⟨g, o, rfl, _, _, hc⟩
      · have := M.out; omega
      have ck := hc k s hs
      have Hst : Hid (joins (ps.take (k + 1)) = joins (ps.take k) ++ s.data.toList) := hst
      have hbase : N ≤ wr.heap.size := by have := hu.size; omega
      have HHw : Hid (Holds wr b [v', f] 128) := hH
      obtain ⟨va', vc', hv'⟩ := row_form hr
      have c0 := hH.at 0 _ rfl
      have f0 := hH.frozen 0
      rw [hv'] at c0
      have hvb : ∀ g, v'.ownBlock = some g → g ≠ b := fun g hg e => by
        subst e
        rcases hr.2 with ⟨e2, _⟩ | ⟨g', cap, cur, e2, _, hg', _⟩
        · rw [e2] at hg; cases hg
        · rw [e2] at hg
          obtain rfl : g' = g := by simpa [Value.ownBlock] using hg
          unfold Holds at hH
          rw [hH] at hg'
          simp at hg'
      have HVB : Hid (∀ g, v'.ownBlock = some g → g ≠ b) := hvb
      clear hst hc hs hvb
      have HQ : Hid ((bs ++ joins (ps.take (k + 1))).length = (bs ++ joins (ps.take k)).length + s.size ∧ (bs ++ joins (ps.take (k + 1))).map byteV = (bs ++ joins (ps.take k)).map byteV ++ Lib.strCells s) := by
        show _ ∧ _
        rw [Hst.out, ← List.append_assoc, List.length_append, List.map_append]
        exact ⟨rfl, rfl⟩
      generalize (bs ++ joins (ps.take k)).length = q at *
      subst hv'
      have f0' : Hid (∀ W : World, wr.grownBy W (Value.slice va' q vc').ownBlock → W.cell? ⟨b, 0, none⟩ = some (.slice va' q vc') ∧ W.frozen? ⟨b, 0, none⟩ = false ∧ Holds W b [.slice va' q vc', f] 128) := fun W hg => by
        have hne : some b ≠ (Value.slice va' q vc').ownBlock := fun e => HVB.out b e.symm rfl
        have e := hg.block b HHw.out.lt hne
        have h3 : Holds W b [.slice va' q vc', f] 128 := by unfold Holds; rw [e]; exact HHw.out
        exact ⟨h3.at 0 _ rfl, h3.frozen 0, h3⟩
      clear hH
      go_wp2_with (first
        | (at_builtin; refine wpList_append_str_at _ rfl (.tmp 16) (.tmp 17) 61 9 rfl N 5 i5 und61 und9 F5.out FZ.out FS.out FB.out (.slice va' q vc') q _ rfl hr s rfl (by unfold maxLen; omega) (by omega) hbase ?_; intro a3 c3 w3 hr3 hg3 hloc3; obtain ⟨e0, e1, e2⟩ := f0'.out w3 hg3; have E2 : Hid (Holds w3 b [.slice va' q vc', f] 128) := e2; have HL3 : Hid (∀ g, (Value.slice a3 (q + s.size) c3).ownBlock = some g → (Value.slice va' q vc').ownBlock = some g ∨ wr.heap.size ≤ g) := hloc3; clear hloc3 e2))
      refine ⟨⟨k + 1, .slice a3 (q + s.size) c3, by omega, rfl, E2.out.set 0 _, ?_, fun g hg => ?_, ?_⟩, by simp; omega⟩
      · rw [HQ.out.1, HQ.out.2]
        exact row_set hr3 E2.out 0 _
      · rcases HL3.out g hg with h | h
        · exact HLoc.out g h
        · have := hu.size; exact .inr (by omega)
      · refine ⟨hg3.os.trans hu.os, hg3.tape.trans hu.tape, hg3.output.trans hu.output, by have := hu.size; have := hg3.size; simp; omega, fun i hi hib hiv => ?_⟩
        rw [heap_setCell_other w3 ⟨b, 0, none⟩ i _ hib, hg3.block i (by have := hu.size; omega) (fun e => ?_)]
        · exact hu.block i hi hib hiv
        · rcases HLoc.out i e.symm with h | h
          · exact hiv h.symm
          · omega
    · have htk : ps.take k = ps := List.take_of_length_le (by have := M.out; omega)
      rw [htk] at hr
      clear htk
      have HF : Hid (∃ v', Holds wr b [v', f] 128 ∧ wr.ownsRow N 5 1 v' (bs ++ joins ps).length ((bs ++ joins ps).map byteV) ∧ (∀ g, v'.ownBlock = some g → v.ownBlock = some g ∨ w.heap.size ≤ g) ∧ Wrt b v w wr) := ⟨v', hH, hr, HLoc.out, hu⟩
      clear hr hH hu
      go_wp2
      go_end0
      exact ⟨rfl, HF.out⟩
end Go.Proofs.YtfmmholkeadejaaGreatDoor

/- Of one file: found, read, written, made firm, cut. -/
namespace Go.Proofs.YtfmmholkeadejaaGreatDoor
open Go.RowKit Go.Maps Go.WideMaps

/-- A disk, with all that it has laid open. -/
structure OpenAt (w : World) (N : Lo) (d : Nat) (S : Dk) (mv : Value) (st : Int) (A : List UInt8 → Option Nat) (V : List UInt8 → Value) : Prop where
  holds : Holds w d (diskV mv st S) 122
  le : N ≤ d
  map : MapAt w N mv A
  files : FilesAt w N S.fs A V
  fine : S.FineAt st
theorem OpenAt.disk {w : World} {N : Lo} {d : Nat} {S : Dk} {mv : Value} {st : Int} {A : List UInt8 → Option Nat} {V : List UInt8 → Value} (h : OpenAt w N d S mv st A V) : DiskAt w N d S := ⟨mv, st, A, V, h.holds, h.le, h.map, h.files, h.fine⟩
theorem DiskAt.open {w : World} {N : Lo} {d : Nat} {S : Dk} (h : DiskAt w N d S) : ∃ mv st A V, OpenAt w N d S mv st A V := by
  obtain ⟨mv, st, A, V, h1, h2, h3, h4, h5⟩ := h
  exact ⟨mv, st, A, V, h1, h2, h3, h4, h5⟩
theorem OpenAt.keep {w w' : World} {N : Lo} {d : Nat} {S : Dk} {mv : Value} {st : Int} {A : List UInt8 → Option Nat} {V : List UInt8 → Value} (h : OpenAt w N d S mv st A V) (hs : ∀ i, i < w.heap.size → w'.heap[i]? = w.heap[i]?) : OpenAt w' N d S mv st A V := by
  refine ⟨?_, h.le, h.map.same (fun i es c hi => hs i (Array.getElem?_eq_some_iff.1 hi).1), h.files.same (fun i cs t fr hi _ => hs i (Array.getElem?_eq_some_iff.1 hi).1), h.fine⟩
  unfold Holds
  rw [hs d h.holds.lt]; exact h.holds
/-- A disk with a file in block b. -/
def DiskFile (w : World) (N : Lo) (d : Nat) (S : Dk) (k : List UInt8) (b : Nat) : Prop := ∃ mv st A V, OpenAt w N d S mv st A V ∧ A k = some b
theorem DiskFile.disk {w : World} {N : Lo} {d b : Nat} {S : Dk} {k : List UInt8} (h : DiskFile w N d S k b) : DiskAt w N d S := by
  obtain ⟨mv, st, A, V, h, _⟩ := h
  exact h.disk
theorem Dk.FineAt.put_old {S : Dk} {st : Int} (h : S.FineAt st) (k : List UInt8) (f f' : Fl) (hf : get S.fs k = some f) (hu : YtfmmholkeadejaaGreatDoor.used (YtfmmholkeadejaaGreatDoor.put k f' S.fs) ≤ 16777216) : Dk.FineAt { S with fs := YtfmmholkeadejaaGreatDoor.put k f' S.fs } st :=
  ⟨⟨h.rise.put k f', by show (YtfmmholkeadejaaGreatDoor.put k f' S.fs).length ≤ 256; rw [len_put_old h.rise k f' f hf]; exact h.len, hu, h.room, fun p hp => by
    rcases mem_put k f' S.fs p hp with e | hp
    · rw [e]; exact h.keys _ (get_mem hf)
    · exact h.keys p hp, h.ahead⟩, h.tie⟩
/-- A file is written. -/
theorem OpenAt.write {w w' : World} {N : Lo} {d : Nat} {S : Dk} {mv : Value} {st : Int} {A : List UInt8 → Option Nat} {V : List UInt8 → Value} (h : OpenAt w N d S mv st A V) (k : List UInt8) (b : Nat) (f f' : Fl) (v' : Value) (hk : A k = some b) (hf : get S.fs k = some f)
    (hH : Holds w' b [v', .int .i64 (f'.firm : Int)] 128) (hrow : w'.ownsRow N 5 1 v' f'.bytes.length (f'.bytes.map byteV)) (hfl : f'.firm ≤ f'.bytes.length) (hloc : ∀ g, v'.ownBlock = some g → (V k).ownBlock = some g ∨ w.heap.size ≤ g) (hs : Wrt b (V k) w w')
    (hu : used (put k f' S.fs) ≤ 16777216) : OpenAt w' N d { S with fs := put k f' S.fs } mv st A (upd V k v') ∧ DUpd N w w' := by
  obtain ⟨b0, hb0, hN, hHk, hrk, _⟩ := h.files.file k f hf
  obtain rfl : b0 = b := by rw [hb0] at hk; exact Option.some.inj hk
  have hcell : ∀ i (o : Obj), w.heap[i]? = some o → (∀ cs fr, o ≠ .cells cs 128 fr) → (∀ cs fr, o ≠ .cells cs 5 fr) → w'.heap[i]? = w.heap[i]? := fun i o hi h1 h2 => by
    refine hs.block i (Array.getElem?_eq_some_iff.1 hi).1 (fun e => ?_) (fun e => ?_)
    · subst e
      unfold Holds at hHk
      rw [hHk] at hi
      exact h1 _ _ (Option.some.inj hi).symm
    · rcases hrk.2 with ⟨e2, _⟩ | ⟨g, cap, cur, e2, _, hg, _⟩
      · rw [e2] at e; cases e
      · rw [e2] at e
        obtain rfl : i = g := by simpa [Value.ownBlock] using e
        rw [hg] at hi
        exact h2 _ _ (Option.some.inj hi).symm
  refine ⟨⟨?_, h.le, h.map.same (fun i es c hi => hcell i _ hi (fun _ _ e => by cases e) (fun _ _ e => by cases e)), h.files.write k b0 v' f' hk hN hH hrow hfl hloc hs.block, h.fine.put_old k f f' hf hu⟩, hs.dupd hN hHk hrk⟩
  have h1 : Holds w d (diskV mv st S) 122 := h.holds
  show Holds w' d (diskV mv st S) 122
  unfold Holds at h1 ⊢
  rw [hcell d _ h1 (fun _ _ e => by simp at e) (fun _ _ e => by simp at e)]; exact h1
theorem Wrt.setCell (b : Nat) (v : Value) (w : World) (i : Nat) (u : Value) : Wrt b v w (w.setCell ⟨b, i, none⟩ u) :=
  ⟨rfl, rfl, rfl, by simp, fun j _ hj _ => heap_setCell_other w ⟨b, i, none⟩ j u hj⟩
theorem lay_file (N : Lo) (d b : Nat) (S : Dk) (k : List UInt8) (f : Fl) (ps : List ByteArray) (a : Option Addr) (c : Nat) (w : World) (h : DiskFile w N d S k b) (hf : get S.fs k = some f) (ha : StrsAt w N a ps) (hfit : used S.fs + lens ps ≤ 16777216) (hm : ps.length < 9223372036854775808) :
    Calls Tryz.prog 80 #[.pointer (some ⟨b, 0, none⟩), .slice a ps.length c] w fun e w' => e = .returned (.tuple #[]) ∧ DiskFile w' N d { S with fs := put k ⟨f.bytes ++ joins ps, f.firm⟩ S.fs } k b ∧ DUpd N w w' := by
  obtain ⟨mv, st, A, V, h, hk⟩ := h
  obtain ⟨b0, hb0, hN, hHk, hrk, hfm⟩ := h.files.file k f hf
  obtain rfl : b0 = b := by rw [hb0] at hk; exact Option.some.inj hk
  have hle := used_le_mem hf
  refine (layIt_any N b0 (V k) _ f.bytes ps a c w hHk hN hrk ha (by omega) hm).mono fun e w' ⟨he, v', h1, h2, h3, h4⟩ => ?_
  have hup := used_put h.fine.rise k ⟨f.bytes ++ joins ps, f.firm⟩
  rw [lenAt_some hf] at hup
  simp only [List.length_append, joins_len] at hup
  obtain ⟨q1, q2⟩ := h.write k b0 f ⟨f.bytes ++ joins ps, f.firm⟩ v' hk hf h1 h2 (by simp; omega) h3 h4 (by omega)
  exact ⟨he, ⟨mv, st, A, _, q1, hk⟩, q2⟩
theorem settle_file (N : Lo) (d b : Nat) (S : Dk) (k : List UInt8) (f : Fl) (w : World) (h : DiskFile w N d S k b) (hf : get S.fs k = some f) :
    Calls Tryz.prog 71 #[.pointer (some ⟨b, 0, none⟩)] w fun e w' => e = .returned (.tuple #[]) ∧ DiskFile w' N d { S with fs := put k ⟨f.bytes, f.bytes.length⟩ S.fs } k b ∧ DUpd N w w' := by
  obtain ⟨mv, st, A, V, h, hk⟩ := h
  obtain ⟨b0, hb0, hN, hHk, hrk, hfm⟩ := h.files.file k f hf
  obtain rfl : b0 = b := by rw [hb0] at hk; exact Option.some.inj hk
  obtain ⟨va, vc, hv⟩ := row_form hrk
  have hHk2 := hHk
  rw [hv] at hHk2
  refine (settle_any b0 va f.bytes.length vc _ w hHk2).mono fun e w' ⟨he, hw⟩ => ?_
  subst hw
  have hup := used_put h.fine.rise k ⟨f.bytes, f.bytes.length⟩
  rw [lenAt_some hf] at hup
  have hub := h.fine.used
  obtain ⟨q1, q2⟩ := h.write k b0 f ⟨f.bytes, f.bytes.length⟩ (V k) hk hf (hHk.set 1 _) (row_set hrk hHk 1 _) (Nat.le_refl _) (fun g hg => .inl hg) (Wrt.setCell _ _ _ _ _) (by simp only at hup; omega)
  exact ⟨he, ⟨mv, st, A, _, q1, hk⟩, q2⟩
theorem row_cut {w : World} {N n m : Nat} {g c : Nat} {bs : List UInt8} (h : w.ownsRow N 5 1 (.slice (some ⟨g, 0, none⟩) n c) n (bs.map byteV)) (hm : m ≤ n) : w.ownsRow N 5 1 (.slice (some ⟨g, 0, none⟩) m c) (bs.take m).length ((bs.take m).map byteV) := by
  have hl : bs.length = n := by simpa using h.1
  have hl2 : (bs.take m).length = m := by rw [List.length_take]; omega
  refine ⟨by simp, ?_⟩
  rcases h.2 with ⟨e, _⟩ | ⟨g', cap, cur, e, hb, hg, h1, h2, h3, h4⟩
  · cases e
  · obtain ⟨e1, _, e2⟩ : (some (⟨g, 0, none⟩ : Addr) = some ⟨g', 0, none⟩) ∧ n = n ∧ c = cap := by simpa using e
    have e3 : g = g' := by simpa using e1
    subst e3 e2
    rw [hl2]
    refine .inr ⟨g, c, cur, rfl, hb, hg, by omega, h2, h3, ?_⟩
    rw [List.map_take, ← h4, List.take_take]
    congr 1
    omega
theorem cut_file (N : Lo) (d b : Nat) (S : Dk) (k : List UInt8) (f : Fl) (m : Nat) (hm : m ≤ f.bytes.length) (hpos : 0 < f.bytes.length) (hfm2 : f.firm ≤ m) (w : World) (h : DiskFile w N d S k b) (hf : get S.fs k = some f) :
    Calls Tryz.prog 69 #[.pointer (some ⟨b, 0, none⟩), .int .i64 (m : Int)] w fun e w' => e = .returned (.tuple #[]) ∧ DiskFile w' N d { S with fs := put k ⟨f.bytes.take m, f.firm⟩ S.fs } k b ∧ DUpd N w w' := by
  obtain ⟨mv, st, A, V, h, hk⟩ := h
  obtain ⟨b0, hb0, hN, hHk, hrk, hfm⟩ := h.files.file k f hf
  obtain rfl : b0 = b := by rw [hb0] at hk; exact Option.some.inj hk
  obtain ⟨g, c, hv, _⟩ := hrk.form (by omega)
  have hHk2 := hHk
  rw [hv] at hHk2
  have hcap : f.bytes.length ≤ c := by
    rcases hrk.2 with ⟨e, h0⟩ | ⟨g', cap, cur, e, _, _, h1, _⟩
    · omega
    · rw [hv] at e
      have : c = cap := by simpa using (congrArg (fun x => match x with | Value.slice _ _ c => c | _ => 0) e)
      omega
  refine (cut_any b0 g f.bytes.length c m (by omega) hcap _ w hHk2).mono fun e w' ⟨he, hw⟩ => ?_
  subst hw
  have hrk2 := hrk
  rw [hv] at hrk2
  have hup := used_put h.fine.rise k ⟨f.bytes.take m, f.firm⟩
  rw [lenAt_some hf] at hup
  have hub := h.fine.used
  have hl2 : (f.bytes.take m).length = m := by rw [List.length_take]; omega
  obtain ⟨q1, q2⟩ := h.write k b0 f ⟨f.bytes.take m, f.firm⟩ (.slice (some ⟨g, 0, none⟩) m c) hk hf (hHk.set 0 _) (row_set (row_cut hrk2 (by omega)) hHk 0 _) (by simp only [hl2]; exact hfm2) (fun g' hg' => .inl (by rw [hv]; exact hg')) (Wrt.setCell _ _ _ _ _) (by simp only [hl2] at hup; omega)
  exact ⟨he, ⟨mv, st, A, _, q1, hk⟩, q2⟩
theorem loose_file (N : Lo) (d b : Nat) (S : Dk) (k : List UInt8) (f : Fl) (w : World) (h : DiskFile w N d S k b) (hf : get S.fs k = some f) :
    Calls Tryz.prog 68 #[.pointer (some ⟨b, 0, none⟩)] w fun e w' => e = .returned (.int .i64 ((f.bytes.length - f.firm : Nat) : Int)) ∧ w'.heap = w.heap ∧ Below w.heap.size w w' := by
  obtain ⟨mv, st, A, V, h, hk⟩ := h
  obtain ⟨b0, hb0, hN, hHk, hrk, hfm⟩ := h.files.file k f hf
  obtain rfl : b0 = b := by rw [hb0] at hk; exact Option.some.inj hk
  obtain ⟨va, vc, hv⟩ := row_form hrk
  rw [hv] at hHk
  have := used_le_mem hf
  have := h.fine.used
  exact loose_any b0 va f.bytes.length vc f.firm w hHk hfm (by omega)
theorem text_file (N : Lo) (d b : Nat) (S : Dk) (k : List UInt8) (f : Fl) (w : World) (h : DiskFile w N d S k b) (hf : get S.fs k = some f) :
    Calls Tryz.prog 153 #[.pointer (some ⟨b, 0, none⟩)] w fun e w' => e = .returned (.string (strL f.bytes)) ∧ w' = w := by
  obtain ⟨mv, st, A, V, h, hk⟩ := h
  obtain ⟨b0, hb0, hN, hHk, hrk, hfm⟩ := h.files.file k f hf
  obtain rfl : b0 = b := by rw [hb0] at hk; exact Option.some.inj hk
  exact text_any N b0 (V k) f.bytes _ w hHk hrk
theorem DiskFile.keep {w w' : World} {N : Lo} {d b : Nat} {S : Dk} {k : List UInt8} (h : DiskFile w N d S k b) (hs : ∀ i, i < w.heap.size → w'.heap[i]? = w.heap[i]?) : DiskFile w' N d S k b := by
  obtain ⟨mv, st, A, V, h, hk⟩ := h
  exact ⟨mv, st, A, V, h.keep hs, hk⟩
end Go.Proofs.YtfmmholkeadejaaGreatDoor

/- A file is found, made, read. -/
namespace Go.Proofs.YtfmmholkeadejaaGreatDoor
open Go.RowKit Go.Maps Go.WideMaps

theorem strs_one (w : World) (N : Lo) (s : ByteArray) : StrsAt (w.alloc (.cells #[.string s] 9)) N (some ⟨w.heap.size, 0, none⟩) [s] := by
  have h : Holds (w.alloc (.cells #[.string s] 9)) w.heap.size [.string s] 9 := holds_new w [.string s] 9
  refine .inr ⟨w.heap.size, 0, rfl, h.lt, .inr (h.foreign (by decide) (by decide) (by decide)), fun i x hi => ?_⟩
  match i, hi with
  | 0, hi => simp at hi; subst hi; exact h.at 0 _ rfl
  | i + 1, hi => simp at hi
theorem strs_two (w : World) (N : Lo) (s t : ByteArray) : StrsAt (w.alloc (.cells #[.string s, .string t] 9)) N (some ⟨w.heap.size, 0, none⟩) [s, t] := by
  have h : Holds (w.alloc (.cells #[.string s, .string t] 9)) w.heap.size [.string s, .string t] 9 := holds_new w [.string s, .string t] 9
  refine .inr ⟨w.heap.size, 0, rfl, h.lt, .inr (h.foreign (by decide) (by decide) (by decide)), fun i x hi => ?_⟩
  match i, hi with
  | 0, hi => simp at hi; subst hi; exact h.at 0 _ rfl
  | 1, hi => simp at hi; subst hi; exact h.at 1 _ rfl
  | i + 2, hi => simp at hi
def foundE (S : Dk) (s : ByteArray) : Int := if S.on = true then (if nameOk s = true then (if (get S.fs s.data.toList).isSome = true then 0 else 21) else 20) else 23
theorem nameOk_le {s : ByteArray} (h : nameOk s = true) : s.size ≤ 32 := by
  simp [nameOk] at h
  omega
theorem found_nil (s : ByteArray) (w : World) : Calls Tryz.prog 152 #[.pointer none, .string s] w fun e w' => e = .returned (.int .i64 23) ∧ Below w.heap.size w w' := by
  go_enter Tryz.func152, Tryz.ntmps152
  go_wp2_with (go_at_call 77; refine (named_nil _ _ _ _).mono ?_; rintro e w2 ⟨rfl, rfl⟩)
  go_ret
  exact ⟨rfl, (Below.refl _ _).alloc (Nat.le_refl _) _⟩
set_option maxHeartbeats 800000 in
theorem found_some (N : Lo) (d : Nat) (S : Dk) (s : ByteArray) (hs : s.size < 9223372036854775808) (w : World) (h : DiskAt w N d S) :
    Calls Tryz.prog 152 #[.pointer (some ⟨d, 0, none⟩), .string s] w fun e w' => e = .returned (.int .i64 (foundE S s)) ∧ Below w.heap.size w w' := by
  have hna : Hid (Calls Tryz.prog 77 #[.pointer (some ⟨d, 0, none⟩), .slice (some ⟨w.heap.size, 0, none⟩) 1 1] (w.alloc (.cells #[.string s] 9)) fun e w' => e = .returned (.int .i64 (namedE S [s])) ∧ w' = w.alloc (.cells #[.string s] 9)) :=
    named_some N d S [s] (by simp; exact hs) (by simp) _ 1 _ (h.alloc _) (strs_one w N s)
  have hb : Hid (Below w.heap.size w (w.alloc (.cells #[.string s] 9))) := (Below.refl _ _).alloc (Nat.le_refl _) _
  by_cases hon : S.on = true
  · by_cases hok : nameOk s = true
    · have e1 : namedE S [s] = 0 := by rw [namedE, if_pos hon]; exact namE_ok (by simp [hok])
      rw [e1] at hna
      obtain ⟨mv, st, A, V, ho⟩ := (h.alloc (.cells #[.string s] 9)).open
      have c0 := ho.holds.at 0 _ rfl
      have hlk := ho.map.look s (by have := nameOk_le hok; unfold maxLen; omega)
      cases hg : get S.fs s.data.toList with
      | none =>
        have e2 : foundE S s = 21 := by rw [foundE, if_pos hon, if_pos hok, hg]; rfl
        rw [e2]
        rw [ho.files.gone _ hg] at hlk
        simp only [tokV] at hlk
        clear hg ho hok hon e1 e2
        go_enter Tryz.func152, Tryz.ntmps152
        go_wp2_with (go_at_call 77; refine hna.out.mono ?_; rintro e w2 ⟨rfl, rfl⟩)
        go_ret
        exact ⟨rfl, hb.out⟩
      | some f =>
        have e2 : foundE S s = 0 := by rw [foundE, if_pos hon, if_pos hok, hg]; rfl
        rw [e2]
        obtain ⟨b, hb0, _⟩ := ho.files.file _ f hg
        rw [hb0] at hlk
        simp only [tokV] at hlk
        clear hg ho hok hon e1 e2 hb0
        go_enter Tryz.func152, Tryz.ntmps152
        go_wp2_with (go_at_call 77; refine hna.out.mono ?_; rintro e w2 ⟨rfl, rfl⟩)
        go_ret
        exact ⟨rfl, hb.out⟩
    · have e1 : namedE S [s] = 20 := by rw [namedE, if_pos hon]; exact namE_no (by simp [hok])
      have e2 : foundE S s = 20 := by rw [foundE, if_pos hon, if_neg hok]
      rw [e1] at hna
      rw [e2]
      clear hok hon e1 e2
      go_enter Tryz.func152, Tryz.ntmps152
      go_wp2_with (go_at_call 77; refine hna.out.mono ?_; rintro e w2 ⟨rfl, rfl⟩)
      go_ret
      exact ⟨rfl, hb.out⟩
  · have e1 : namedE S [s] = 23 := by rw [namedE, if_neg hon]
    have e2 : foundE S s = 23 := by rw [foundE, if_neg hon]
    rw [e1] at hna
    rw [e2]
    clear hon e1 e2
    go_enter Tryz.func152, Tryz.ntmps152
    go_wp2_with (go_at_call 77; refine hna.out.mono ?_; rintro e w2 ⟨rfl, rfl⟩)
    go_ret
    exact ⟨rfl, hb.out⟩

/-- What Read tells. -/
def readV (S : Dk) (s : ByteArray) : ByteArray := if foundE S s = 0 then (match get S.fs s.data.toList with | some f => strL f.bytes | none => ⟨#[]⟩) else ⟨#[]⟩
theorem read_nil (s : ByteArray) (w : World) : Calls Tryz.prog 109 #[.pointer none, .string s] w fun e w' => e = .returned (.tuple #[.string ⟨#[]⟩, .int .i64 23]) ∧ Below w.heap.size w w' := by
  go_enter Tryz.func109, Tryz.ntmps109
  go_wp2_with (go_at_call 152; refine (found_nil s _).mono ?_; rintro e w2 ⟨rfl, b2⟩)
  go_ret2
  exact ⟨rfl, b2⟩
theorem found_zero {S : Dk} {s : ByteArray} (h : foundE S s = 0) : S.on = true ∧ nameOk s = true ∧ ∃ f, get S.fs s.data.toList = some f := by
  unfold foundE at h
  split at h
  · split at h
    · split at h
      · rename_i a b c
        exact ⟨a, b, Option.isSome_iff_exists.1 c⟩
      · cases h
    · cases h
  · cases h
set_option maxHeartbeats 800000 in
theorem read_some (N : Lo) (d : Nat) (S : Dk) (s : ByteArray) (hs : s.size < 9223372036854775808) (w : World) (h : DiskAt w N d S) :
    Calls Tryz.prog 109 #[.pointer (some ⟨d, 0, none⟩), .string s] w fun e w' => e = .returned (.tuple #[.string (readV S s), .int .i64 (foundE S s)]) ∧ Below w.heap.size w w' := by
  have hfo : Hid (Calls Tryz.prog 152 #[.pointer (some ⟨d, 0, none⟩), .string s] w fun e w' => e = .returned (.int .i64 (foundE S s)) ∧ Below w.heap.size w w') := found_some N d S s hs w h
  by_cases h0 : foundE S s = 0
  · obtain ⟨_, hok, f, hf⟩ := found_zero h0
    have hv : readV S s = strL f.bytes := by rw [readV, if_pos h0, hf]
    rw [hv, h0]
    rw [h0] at hfo
    have hD : Hid (DiskAt w N d S) := h
    have hF : Hid (get S.fs s.data.toList = some f) := hf
    have hok' := nameOk_le hok
    clear hv h h0 hf hok
    generalize hq : strL f.bytes = q
    have HQ : Hid (strL f.bytes = q) := hq
    clear hq
    go_enter Tryz.func109, Tryz.ntmps109
    go_wp2_with (first
      | (go_at_call 152; refine hfo.out.mono ?_; rintro e w2 ⟨rfl, b2⟩; obtain ⟨mv, st, A, V, ho⟩ := (hD.out.below b2).open; obtain ⟨b, hb0, _⟩ := ho.files.file _ f hF.out; have c0 := ho.holds.at 0 _ rfl; have hlk := ho.map.look s (by unfold maxLen; omega); rw [hb0] at hlk; simp only [tokV] at hlk; have hDF : Hid (DiskFile w2 N d S s.data.toList b) := ⟨mv, st, A, V, ho, hb0⟩; clear ho hb0)
      | (go_at_call 153; refine (text_file N d b S _ f _ hDF.out hF.out).mono ?_; rw [HQ.out]; rintro e w3 ⟨rfl, rfl⟩))
    go_ret2
    exact ⟨rfl, b2⟩
  · have hv : readV S s = ⟨#[]⟩ := by rw [readV, if_neg h0]
    rw [hv]
    have hne : ((foundE S s) == 0) = false := by simpa using h0
    generalize foundE S s = E at *
    clear h hv
    go_enter Tryz.func109, Tryz.ntmps109
    go_wp2_with (go_at_call 152; refine hfo.out.mono ?_; rintro e w2 ⟨rfl, b2⟩)
    go_ret2
    exact ⟨rfl, b2⟩
end Go.Proofs.YtfmmholkeadejaaGreatDoor
