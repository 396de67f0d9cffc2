/- A tree in memory: one block of 9232 cells, and the maps of its leaves. -/
import Derived.Test.YtbfadapffpijpaaDoorTrPure
import Derived.Test.YtbfadapffpijpaaDoorShJoin
import Derived.Test.YtbfadapffpijpaaDoorIter
import Derived.Maps.OwnSet
import Derived.Maps.RangeWalk
import Derived.StringKeys
namespace Go.Proofs.YtbfadapffpijpaaDoor
open Go.RowKit Go.Maps Go.WideMaps Go.Sort Go.Shelf

theorem over_right (A B ds : List Value) (o : Nat) : overV (A ++ B) (A.length + o) ds = A ++ overV B o ds := by
  unfold overV
  rw [List.take_append, List.drop_append, List.take_of_length_le (by omega), List.drop_of_length_le (by omega), show A.length + o - A.length = o by omega, show A.length + o + ds.length - A.length = o + ds.length by omega]
  simp
theorem over_left (A B ds : List Value) (o : Nat) (h : o + ds.length ≤ A.length) : overV (A ++ B) o ds = overV A o ds ++ B := by
  unfold overV
  rw [List.take_append, List.drop_append, show o - A.length = 0 by omega, show o + ds.length - A.length = 0 by omega]
  simp
theorem over_flat (s : List UInt8) (hs : s.length = 32) : ∀ (ls : List (List UInt8)) (i : Nat), (∀ l ∈ ls, l.length = 32) → i < ls.length → overV (ls.flatten.map byteV) (32 * i) (s.map byteV) = (ls.set i s).flatten.map byteV
  | [], i, _, h => by simp at h
  | l :: r, 0, h32, _ => by
    have hl := h32 l (List.mem_cons_self ..)
    show overV ((l ++ r.flatten).map byteV) 0 _ = _
    rw [List.map_append, over_left _ _ _ _ (by simp [hs, hl])]
    unfold overV
    simp [hs, hl]
  | l :: r, i + 1, h32, hi => by
    have hl := h32 l (List.mem_cons_self ..)
    have ih := over_flat s hs r i (fun x hx => h32 x (List.mem_cons_of_mem _ hx)) (by simpa using hi)
    show overV ((l ++ r.flatten).map byteV) (32 * (i + 1)) _ = _
    rw [List.map_append, show 32 * (i + 1) = (l.map byteV).length + 32 * i by simp [hl]; omega, over_right, ih]
    simp
theorem flat_at : ∀ (ls : List (List UInt8)) (i j : Nat) (l : List UInt8), (∀ l ∈ ls, l.length = 32) → ls[i]? = some l → j < 32 → ls.flatten[32 * i + j]? = l[j]?
  | [], i, _, _, _, h, _ => by simp at h
  | l :: r, 0, j, m, h32, h, hj => by
    have hl := h32 l (List.mem_cons_self ..)
    simp at h
    subst h
    rw [List.flatten_cons, List.getElem?_append_left (by omega)]; simp
  | l :: r, i + 1, j, m, h32, h, hj => by
    have hl := h32 l (List.mem_cons_self ..)
    have ih := flat_at r i j m (fun x hx => h32 x (List.mem_cons_of_mem _ hx)) (by simpa using h) hj
    rw [List.flatten_cons, List.getElem?_append_right (by omega), ← ih, hl]
    congr 1; omega

def treeV (mv : List Value) (T : Tr) : List Value := mv ++ (T.sums.flatten.map byteV ++ (T.dirty.map Value.bool ++ (T.br.flatten.map byteV ++ T.jn.map Value.bool)))
theorem sumsV_len {T : Tr} (h : T.Sz) : (T.sums.flatten.map byteV).length = 8192 := by rw [List.length_map, flat_len _ h.s32, h.sums]
theorem brV_len {T : Tr} (h : T.Sz) : (T.br.flatten.map byteV).length = 512 := by rw [List.length_map, flat_len _ h.b32, h.br]
theorem treeV_len {mv : List Value} {T : Tr} (hm : mv.length = 256) (h : T.Sz) : (treeV mv T).length = 9232 := by
  have h1 := sumsV_len h
  have h2 := brV_len h
  unfold treeV
  rw [List.length_append, List.length_append, List.length_append, List.length_append, h1, h2, List.length_map, List.length_map, hm, h.dirty, h.jn]
/-- The places. -/
theorem at_map {mv : List Value} {T : Tr} (hm : mv.length = 256) {i : Nat} (hi : i < 256) : (treeV mv T)[i]? = mv[i]? := by
  unfold treeV
  rw [List.getElem?_append_left (by omega)]
theorem at_sum {mv : List Value} {T : Tr} (hm : mv.length = 256) (h : T.Sz) {i j : Nat} {s : List UInt8} (hi : T.sums[i]? = some s) (hj : j < 32) : (treeV mv T)[256 + 32 * i + j]? = (s.map byteV)[j]? := by
  have h1 := sumsV_len h
  have hl : i < T.sums.length := (List.getElem?_eq_some_iff.1 hi).1
  have hs := h.sums
  unfold treeV
  rw [List.getElem?_append_right (by omega), List.getElem?_append_left (by omega), List.getElem?_map, show 256 + 32 * i + j - mv.length = 32 * i + j by omega, flat_at T.sums i j s h.s32 hi hj, List.getElem?_map]
theorem at_dirty {mv : List Value} {T : Tr} (hm : mv.length = 256) (h : T.Sz) {i : Nat} (hi : i < 256) : (treeV mv T)[8448 + i]? = some (.bool (T.dirty.getD i false)) := by
  have h1 := sumsV_len h
  have hd := h.dirty
  have hd2 : (T.dirty.map Value.bool).length = 256 := by rw [List.length_map, hd]
  unfold treeV
  rw [List.getElem?_append_right (by omega), List.getElem?_append_right (by omega), List.getElem?_append_left (by omega), List.getElem?_map, show 8448 + i - mv.length - (T.sums.flatten.map byteV).length = i by omega, List.getD_eq_getElem?_getD, List.getElem?_eq_getElem (by omega)]; rfl
theorem at_br {mv : List Value} {T : Tr} (hm : mv.length = 256) (h : T.Sz) {i j : Nat} {s : List UInt8} (hi : T.br[i]? = some s) (hj : j < 32) : (treeV mv T)[8704 + 32 * i + j]? = (s.map byteV)[j]? := by
  have h1 := sumsV_len h
  have h2 := brV_len h
  have hl : i < T.br.length := (List.getElem?_eq_some_iff.1 hi).1
  have hs := h.br
  have hd := h.dirty
  have hd2 : (T.dirty.map Value.bool).length = 256 := by rw [List.length_map, hd]
  unfold treeV
  rw [List.getElem?_append_right (by omega), List.getElem?_append_right (by omega), List.getElem?_append_right (by omega), List.getElem?_append_left (by omega), List.getElem?_map, show 8704 + 32 * i + j - mv.length - (T.sums.flatten.map byteV).length - (T.dirty.map Value.bool).length = 32 * i + j by omega, flat_at T.br i j s h.b32 hi hj, List.getElem?_map]
theorem at_jn {mv : List Value} {T : Tr} (hm : mv.length = 256) (h : T.Sz) {i : Nat} (hi : i < 16) : (treeV mv T)[9216 + i]? = some (.bool (T.jn.getD i false)) := by
  have h1 := sumsV_len h
  have h2 := brV_len h
  have hd := h.dirty
  have hd2 : (T.dirty.map Value.bool).length = 256 := by rw [List.length_map, hd]
  have hj := h.jn
  unfold treeV
  rw [List.getElem?_append_right (by omega), List.getElem?_append_right (by omega), List.getElem?_append_right (by omega), List.getElem?_append_right (by omega), List.getElem?_map, show 9216 + i - mv.length - (T.sums.flatten.map byteV).length - (T.dirty.map Value.bool).length - (T.br.flatten.map byteV).length = i by omega, List.getD_eq_getElem?_getD, List.getElem?_eq_getElem (by omega)]; rfl
theorem set_map {mv : List Value} {T : Tr} (hm : mv.length = 256) {i : Nat} (hi : i < 256) (v : Value) : (treeV mv T).set i v = treeV (mv.set i v) T := by
  unfold treeV
  rw [List.set_append_left _ _ (by omega)]
theorem set_dirty {mv : List Value} {T : Tr} (hm : mv.length = 256) (h : T.Sz) {i : Nat} (hi : i < 256) (b : Bool) : (treeV mv T).set (8448 + i) (.bool b) = treeV mv { T with dirty := T.dirty.set i b } := by
  have h1 := sumsV_len h
  have hd2 : (T.dirty.map Value.bool).length = 256 := by rw [List.length_map, h.dirty]
  unfold treeV
  rw [List.set_append_right _ _ (by omega), List.set_append_right _ _ (by omega), List.set_append_left _ _ (by omega), show 8448 + i - mv.length - (T.sums.flatten.map byteV).length = i by omega, List.map_set]
theorem set_jn {mv : List Value} {T : Tr} (hm : mv.length = 256) (h : T.Sz) {i : Nat} (hi : i < 16) (b : Bool) : (treeV mv T).set (9216 + i) (.bool b) = treeV mv { T with jn := T.jn.set i b } := by
  have h1 := sumsV_len h
  have h2 := brV_len h
  have hd2 : (T.dirty.map Value.bool).length = 256 := by rw [List.length_map, h.dirty]
  unfold treeV
  rw [List.set_append_right _ _ (by omega), List.set_append_right _ _ (by omega), List.set_append_right _ _ (by omega), List.set_append_right _ _ (by omega), show 9216 + i - mv.length - (T.sums.flatten.map byteV).length - (T.dirty.map Value.bool).length - (T.br.flatten.map byteV).length = i by omega, List.map_set]
theorem over_sum {mv : List Value} {T : Tr} (hm : mv.length = 256) (h : T.Sz) {i : Nat} (hi : i < 256) (s : List UInt8) (hs : s.length = 32) : overV (treeV mv T) (256 + 32 * i) (s.map byteV) = treeV mv { T with sums := T.sums.set i s } := by
  have h1 := sumsV_len h
  unfold treeV
  rw [show 256 + 32 * i = mv.length + 32 * i by omega, over_right, over_left _ _ _ _ (by simp [hs] at h1 ⊢; omega), over_flat s hs T.sums i h.s32 (by rw [h.sums]; exact hi)]
theorem over_br {mv : List Value} {T : Tr} (hm : mv.length = 256) (h : T.Sz) {i : Nat} (hi : i < 16) (s : List UInt8) (hs : s.length = 32) : overV (treeV mv T) (8704 + 32 * i) (s.map byteV) = treeV mv { T with br := T.br.set i s } := by
  have h1 := sumsV_len h
  have h2 := brV_len h
  have hd2 : (T.dirty.map Value.bool).length = 256 := by rw [List.length_map, h.dirty]
  unfold treeV
  rw [show 8704 + 32 * i = mv.length + ((T.sums.flatten.map byteV).length + ((T.dirty.map Value.bool).length + 32 * i)) by omega, over_right, over_right, over_right, over_left _ _ _ _ (by simp [hs] at h2 ⊢; omega), over_flat s hs T.br i h.b32 (by rw [h.br]; exact hi)]

/-- The bytes of cells. -/
def unAll : List Value → Option (List UInt8)
  | [] => some []
  | .int .u8 n :: r => if 0 ≤ n ∧ n < 256 then (unAll r).map (UInt8.ofNat n.toNat :: ·) else none
  | _ :: _ => none
theorem unAll_of : ∀ l : List UInt8, unAll (l.map byteV) = some l
  | [] => rfl
  | b :: l => by
    have h := b.toNat_lt
    show unAll (.int .u8 (b.toNat : Int) :: l.map byteV) = _
    rw [unAll, if_pos (by omega), unAll_of l]
    simp
theorem unAll_inv : ∀ (vs : List Value) (l : List UInt8), unAll vs = some l → vs = l.map byteV
  | [], l, h => by simp [unAll] at h; subst h; rfl
  | v :: r, l, h => by
    unfold unAll at h
    split at h
    · rename_i e; cases e
    · rename_i n r' e
      cases e
      split at h
      · rename_i hn
        cases hr : unAll r with
        | none => simp [hr] at h
        | some m =>
          simp [hr] at h
          rw [← h, unAll_inv r m hr, List.map_cons]
          congr 1
          unfold byteV
          congr 1
          have : (UInt8.ofNat n.toNat).toNat = n.toNat := by simp; omega
          rw [this]; omega
      · cases h
    · cases h
def sumElem : Value → Option (DataW Unit × List MemPlace)
  | .agg cs => (unAll cs.toList).bind fun l => if l.length = 32 then some (.lit (.string l), []) else none
  | _ => none
theorem sumElem_of (l : List UInt8) (h : l.length = 32) : sumElem (.agg (l.map byteV).toArray) = some (.lit (.string l), []) := by
  simp [sumElem, unAll_of, h]
theorem sumElem_inv {v : Value} {y : DataW Unit × List MemPlace} (h : sumElem v = some y) : ∃ l : List UInt8, l.length = 32 ∧ v = .agg (l.map byteV).toArray ∧ y = (.lit (.string l), []) := by
  unfold sumElem at h
  split at h
  · rename_i cs
    cases hu : unAll cs.toList with
    | none => simp [hu] at h
    | some l =>
      simp only [hu, Option.bind_some] at h
      split at h
      · rename_i hl
        refine ⟨l, hl, ?_, by simpa using h.symm⟩
        rw [← unAll_inv _ _ hu]
      · cases h
  · cases h
def pk : Option Fl → DataW Unit
  | some f => .lit (.string f.bytes)
  | none => .nil
def KeysAt (w : World) (mb : Nat) (kv : Fs) : Prop :=
  ∃ n D, w.ownsMap Tryd.prog 9 sumElem mb n D ∧ (∀ k, D.atKey (.string k) .nil = pk (get kv k)) ∧ (∀ k, has D (.string k) = (get kv k).isSome)
theorem und24 : Tryd.prog.underlying 24 = some (.map 9 26) := by kernel_rfl
theorem law9 : Keyed Tryd.prog 9 := string_keyed und9
theorem zero26 (w : World) : (zeroValue 26).run Tryd.prog w = .ok (.agg (zero32.map byteV).toArray) w := by kernel_rfl
theorem key_of (s : ByteArray) (h : s.size ≤ maxLen) : keyOf Tryd.prog 9 (.string s) = some (.string s.data.toList) := keyOf_string_mk und9 h
theorem KeysAt.same {w w' : World} {mb : Nat} {kv : Fs} (h : KeysAt w mb kv) (hs : w'.heap[mb]? = w.heap[mb]?) : KeysAt w' mb kv := by
  obtain ⟨n, D, ⟨es, cl, hb, r⟩, h1, h2⟩ := h
  exact ⟨n, D, ⟨es, cl, hs.trans hb, r⟩, h1, h2⟩
theorem KeysAt.isMap {w : World} {mb : Nat} {kv : Fs} (h : KeysAt w mb kv) : ∃ es c, w.heap[mb]? = some (Obj.map es c) := by
  obtain ⟨n, D, ⟨es, cl, hb, r⟩, h1, h2⟩ := h
  exact ⟨es, cl, hb⟩
theorem KeysAt.lt {w : World} {mb : Nat} {kv : Fs} (h : KeysAt w mb kv) : mb < w.heap.size := by
  obtain ⟨es, c, hb⟩ := h.isMap
  exact (Array.getElem?_eq_some_iff.1 hb).1
/-- A leaf's map. -/
def MapIs (w : World) (v : Value) (kv : Fs) : Prop := (v = .map none ∧ kv = []) ∨ ∃ mb, v = .map (some mb) ∧ KeysAt w mb kv
/-- What a look-up tells. -/
def lookV : Option Fl → Value
  | some f => .agg (f.bytes.map byteV).toArray
  | none => .agg (zero32.map byteV).toArray
theorem MapIs.look {w : World} {v : Value} {kv : Fs} (h : MapIs w v kv) (s : ByteArray) (hs : s.size ≤ maxLen) (c : Bool) : (Instr.lookup 24 v (.string s) c).run Tryd.prog w = .ok (if c then .tuple #[lookV (get kv s.data.toList), .bool (get kv s.data.toList).isSome] else lookV (get kv s.data.toList)) w := by
  rcases h with ⟨rfl, rfl⟩ | ⟨mb, rfl, n, D, ⟨es, clock, hb, F, _, rfl⟩, hat, _⟩
  · have := Maps.look_nil (w := w) c law9 und24 (zero26 w) (key_of s hs)
    rw [this]; rfl
  · rcases Maps.fit_look c law9 und24 (zero26 w) hb F (key_of s hs) with ⟨hrun, _, ha⟩ | ⟨e0, y, _, _, hrun, hR, ha, _⟩
    · have q := (ha .nil).symm.trans (hat s.data.toList)
      cases hg : get kv s.data.toList with
      | none => rw [hrun]; rfl
      | some f => rw [hg] at q; cases q
    · have q := (ha .nil).symm.trans (hat s.data.toList)
      obtain ⟨l, hl, hv, hy⟩ := sumElem_inv hR
      rw [hy] at q
      cases hg : get kv s.data.toList with
      | none => rw [hg] at q; cases q
      | some f =>
        rw [hg] at q
        simp [pk] at q
        rw [hrun, hv, q]; rfl
theorem keys_perm {w : World} {fs : Fs} {mb n : Nat} {D : DataW Unit} (hown : w.ownsMap Tryd.prog 9 sumElem mb n D) (hr : Rising fs) (hh : ∀ k, has D (.string k) = (get fs k).isSome) : (fs.map Prod.fst).Perm (strKeys D) := by
  obtain ⟨es, hD, hpw, _⟩ := hown.entries law9
  obtain ⟨es', hD', hko⟩ := hown.keysOf
  obtain rfl : es = es' := by rw [hD] at hD'; simpa using hD'
  subst hD
  exact perm_strKeys hpw (fun p hp => by obtain ⟨v, hv⟩ := hko p hp; obtain ⟨x, _, hx, _⟩ := Maps.keyOf_str und9 hv; exact ⟨x, hx⟩) hr.nodup (fun x => by rw [hh x, get_isSome])
theorem keys_size {w : World} {fs : Fs} {mb n : Nat} {D : DataW Unit} (hown : w.ownsMap Tryd.prog 9 sumElem mb n D) (hr : Rising fs) (hh : ∀ k, has D (.string k) = (get fs k).isSome) : Maps.size D = fs.length := by
  have h := (keys_perm hown hr hh).length_eq
  obtain ⟨es, rfl⟩ := hown.isMap
  rw [List.length_map] at h
  rw [h]
  show es.length = (es.map _).length
  rw [List.length_map]
theorem keys_tight {w : World} {mb n : Nat} {D : DataW Unit} (h : w.ownsMap Tryd.prog 9 sumElem mb n D) : w.ownsMap Tryd.prog 9 sumElem mb (Maps.size D) D := by
  obtain ⟨es, clock, hb, F, hs, hD⟩ := h
  refine ⟨es, clock, hb, F, ?_, hD⟩
  rw [hD]
  show es.size ≤ List.length _
  rw [length_read]
  exact Nat.le_refl _
theorem isKeyLit_str (k : List UInt8) : WideAt.IsKeyLit (.string k) := trivial
theorem lit_ne {a b : List UInt8} (h : ¬ a = b) : (Lit.string a) ≠ .string b := fun e => h (by simpa using e)
theorem keys_put1 {w w1 : World} {mb n n1 : Nat} {D : DataW Unit} {kv : Fs} (hown : w.ownsMap Tryd.prog 9 sumElem mb n D) (hat : ∀ k, D.atKey (.string k) .nil = pk (get kv k)) (hhas : ∀ k, has D (.string k) = (get kv k).isSome)
    (k : List UInt8) (f : Fl) (h1 : w1.ownsMap Tryd.prog 9 sumElem mb n1 (D.put (.string k) (.lit (.string f.bytes)))) : KeysAt w1 mb (put k f kv) := by
  refine ⟨n1, _, h1, fun x => ?_, fun x => ?_⟩
  · rw [get_put]
    by_cases e : x = k
    · subst e
      rw [if_pos rfl, atKey_put_same hown.isMap (isKeyLit_str _)]; rfl
    · rw [if_neg e, atKey_put_other (lit_ne e), hat]
  · rw [get_put]
    by_cases e : x = k
    · subst e
      rw [if_pos rfl, has_put_same hown.isMap (isKeyLit_str _)]; rfl
    · rw [if_neg e, has_put_other (lit_ne e), hhas]
theorem keys_del1 {w1 : World} {mb n1 : Nat} {D : DataW Unit} {kv : Fs} (hr : Rising kv) (hat : ∀ k, D.atKey (.string k) .nil = pk (get kv k)) (hhas : ∀ k, has D (.string k) = (get kv k).isSome)
    (k : List UInt8) (h1 : w1.ownsMap Tryd.prog 9 sumElem mb n1 (D.del (.string k))) : KeysAt w1 mb (del k kv) := by
  refine ⟨n1, _, h1, fun x => ?_, fun x => ?_⟩
  · rw [get_del hr]
    by_cases e : x = k
    · subst e
      rw [if_pos rfl, atKey_del_same]; rfl
    · rw [if_neg e, atKey_del_other (lit_ne e), hat]
  · rw [get_del hr]
    by_cases e : x = k
    · subst e
      rw [if_pos rfl, has_del_same]; rfl
    · rw [if_neg e, has_del_other (lit_ne e), hhas]
/-- A new map. -/
theorem keys_made (w : World) : KeysAt (w.alloc (.map #[] 0)) w.heap.size [] :=
  ⟨0, .map [], World.ownsMap_made w Tryd.prog 9 sumElem, fun _ => rfl, fun _ => rfl⟩
theorem MapIs.len {w : World} {v : Value} {kv : Fs} (h : MapIs w v kv) (hr : Rising kv) (ty : TypeId) : (Builtin.len_ #[24] ty #[v]).run Tryd.prog w = .ok (.int .i64 (kv.length : Int)) w := by
  rcases h with ⟨rfl, rfl⟩ | ⟨mb, rfl, n, D, hown, _, hh⟩
  · exact Maps.len_nil und24 ty
  · rw [hown.len und24 ty, keys_size hown hr hh]
end Go.Proofs.YtbfadapffpijpaaDoor
