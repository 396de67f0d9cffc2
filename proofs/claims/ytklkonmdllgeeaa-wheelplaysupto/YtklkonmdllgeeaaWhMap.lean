/- The map of timers. -/
import Derived.Test.YtklkonmdllgeeaaWhCmp
import Derived.Test.YtklkonmdllgeeaaApp
import Derived.Sort.KeysCollected
import Derived.Maps.RangeWalk
import Derived.Maps.OwnSet
namespace Go.Proofs.Ytklkonmdllgeeaa
open Go.RowKit Go.Maps Go.WideMaps Go.Sort

def strL (l : List UInt8) : ByteArray := ⟨l.toArray⟩
theorem strL_list (l : List UInt8) : (strL l).data.toList = l := rfl
theorem strL_size (l : List UInt8) : (strL l).size = l.length := rfl
theorem strL_of (s : ByteArray) : strL s.data.toList = s := by cases s; simp [strL]
theorem strL_inj {a b : List UInt8} (h : strL a = strL b) : a = b := by rw [← strL_list a, h, strL_list]
def tmV (x : Tm) : List Value := [.string (strL x.1), .int .i64 x.2.1, .int .u64 (x.2.2 : Int)]
theorem tmV_one (x : Tm) : ∀ u ∈ tmV x, u.oneCell' = true := fun u hu => by simp [tmV] at hu; rcases hu with rfl | rfl | rfl <;> rfl
def tmD (x : Tm) : DataW Unit := .agg [.lit (.string x.1), .lit (.int .i64 x.2.1), .lit (.int .u64 (x.2.2 : Int))]
def tmElem : Value → Option (DataW Unit × List MemPlace)
  | .agg cs => match cs.toList with
    | [.string s, .int .i64 b, .int .u64 (.ofNat c)] => some (tmD (s.data.toList, b, c), [])
    | _ => none
  | _ => none
theorem tmElem_of (x : Tm) : tmElem (.agg (tmV x).toArray) = some (tmD x, []) := rfl
theorem tmElem_inv {v : Value} {y : DataW Unit × List MemPlace} (h : tmElem v = some y) : ∃ x, v = .agg (tmV x).toArray ∧ y = (tmD x, []) := by
  unfold tmElem at h
  split at h
  · rename_i cs
    split at h
    · rename_i a b c hl
      refine ⟨(a.data.toList, b, c), ?_, by simpa using h.symm⟩
      obtain ⟨l⟩ := cs
      simp at hl
      rw [hl]
      show _ = Value.agg #[.string (strL a.data.toList), .int .i64 b, .int .u64 (c : Int)]
      rw [strL_of]
    · cases h
  · cases h
def pkT : Option Tm → DataW Unit
  | some x => tmD x
  | none => .nil
theorem tmD_inj {a b : Tm} (h : tmD a = tmD b) : a = b := by
  obtain ⟨a1, a2, a3⟩ := a
  obtain ⟨b1, b2, b3⟩ := b
  simp [tmD] at h
  obtain ⟨h1, h2, h3⟩ := h
  rw [h1, h2]
  have : a3 = b3 := by omega
  rw [this]
structure MapOf (D : DataW Unit) (l : Ts) : Prop where
  at_ : ∀ k, D.atKey (.string k) .nil = pkT (findT l k)
  has_ : ∀ k, has D (.string k) = (findT l k).isSome
def TmsAt (w : World) (mb : Nat) (l : Ts) : Prop := ∃ n D, w.ownsMap Try.prog 9 tmElem mb n D ∧ MapOf D l
theorem und9 : Try.prog.underlying 9 = some .string := by kernel_rfl
theorem und47 : Try.prog.underlying 47 = some (.map 9 57) := by kernel_rfl
theorem law9 : Keyed Try.prog 9 := string_keyed und9
theorem zero57 (w : World) : (zeroValue 57).run Try.prog w = .ok (.agg #[.string ⟨#[]⟩, .int .i64 0, .int .u64 0]) w := by kernel_rfl
theorem key_of (s : List UInt8) (h : s.length ≤ maxLen) : keyOf Try.prog 9 (.string (strL s)) = some (.string s) := keyOf_string_mk (s := strL s) und9 h
theorem TmsAt.same {w w' : World} {mb : Nat} {l : Ts} (h : TmsAt w mb l) (hs : w'.heap[mb]? = w.heap[mb]?) : TmsAt w' mb l := by
  obtain ⟨n, D, ⟨es, cl, hb, r⟩, h1⟩ := h
  exact ⟨n, D, ⟨es, cl, hs.trans hb, r⟩, h1⟩
theorem TmsAt.lt {w : World} {mb : Nat} {l : Ts} (h : TmsAt w mb l) : mb < w.heap.size := by
  obtain ⟨n, D, ⟨es, cl, hb, r⟩, h1⟩ := h
  exact (Array.getElem?_eq_some_iff.1 hb).1
theorem TmsAt.isMap {w : World} {mb : Nat} {l : Ts} (h : TmsAt w mb l) : ∃ es c, w.heap[mb]? = some (Obj.map es c) := by
  obtain ⟨n, D, ⟨es, cl, hb, r⟩, h1⟩ := h
  exact ⟨es, cl, hb⟩
theorem tms_made (w : World) : TmsAt (w.alloc (.map #[] 0)) w.heap.size [] :=
  ⟨0, .map [], World.ownsMap_made w Try.prog 9 tmElem, fun _ => rfl, fun _ => rfl⟩
/-- What a look-up tells. -/
def lookV : Option Tm → Value
  | some x => .agg (tmV x).toArray
  | none => .agg #[.string ⟨#[]⟩, .int .i64 0, .int .u64 0]
theorem TmsAt.look {w : World} {mb : Nat} {l : Ts} (h : TmsAt w mb l) (s : List UInt8) (hs : s.length ≤ maxLen) : (Instr.lookup 47 (.map (some mb)) (.string (strL s)) true).run Try.prog w = .ok (.tuple #[lookV (findT l s), .bool (findT l s).isSome]) w := by
  obtain ⟨n, D, ⟨es, clock, hb, F, _, rfl⟩, hM⟩ := h
  rcases Maps.fit_look true law9 und47 (zero57 w) hb F (key_of s hs) with ⟨hrun, _, ha⟩ | ⟨e0, y, _, _, hrun, hR, ha, _⟩
  · have q := (ha .nil).symm.trans (hM.at_ s)
    cases hg : findT l s with
    | none => rw [hrun]; rfl
    | some f => rw [hg] at q; cases q
  · have q := (ha .nil).symm.trans (hM.at_ s)
    obtain ⟨x, hv, hy⟩ := tmElem_inv hR
    rw [hy] at q
    cases hg : findT l s with
    | none => rw [hg] at q; cases q
    | some f =>
      rw [hg] at q
      have := tmD_inj q
      subst this
      rw [hrun, hv]; rfl
theorem look_none {w : World} (s : List UInt8) (hs : s.length ≤ maxLen) : (Instr.lookup 47 (.map none) (.string (strL s)) true).run Try.prog w = .ok (.tuple #[lookV none, .bool false]) w := by
  rw [Maps.look_nil true law9 und47 (zero57 w) (key_of s hs)]; rfl
theorem lit_ne {a b : List UInt8} (h : a ≠ b) : ¬ Lit.string a = Lit.string b := fun e => h (by simpa using e)
theorem isKeyLit_str (x : List UInt8) : WideAt.IsKeyLit (.string x) := trivial
theorem names_perm {w : World} {l : Ts} {mb n : Nat} {D : DataW Unit} (hown : w.ownsMap Try.prog 9 tmElem mb n D) (hr : (l.map (·.1)).Nodup) (hM : MapOf D l) : (l.map (·.1)).Perm (strKeys D) := by
  obtain ⟨es, hD, hpw, _⟩ := hown.entries law9
  obtain ⟨es', hD', hko⟩ := hown.keysOf
  obtain rfl : es = es' := by rw [hD] at hD'; simpa using hD'
  subst hD
  refine perm_strKeys hpw (fun p hp => by obtain ⟨v, hv⟩ := hko p hp; obtain ⟨x, _, hx, _⟩ := Maps.keyOf_str und9 hv; exact ⟨x, hx⟩) hr (fun x => ?_)
  rw [hM.has_ x]
  constructor
  · intro hx
    obtain ⟨y, hy, rfl⟩ := List.mem_map.1 hx
    rw [findT_mem hr hy]; rfl
  · intro hx
    cases hf : findT l x with
    | none => rw [hf] at hx; cases hx
    | some y =>
      obtain ⟨h1, h2⟩ := findT_some hf
      exact List.mem_map.2 ⟨y, h1, h2⟩
theorem names_size {w : World} {l : Ts} {mb n : Nat} {D : DataW Unit} (hown : w.ownsMap Try.prog 9 tmElem mb n D) (hr : (l.map (·.1)).Nodup) (hM : MapOf D l) : Maps.size D = l.length := by
  have h := (names_perm hown hr hM).length_eq
  obtain ⟨es, rfl⟩ := hown.isMap
  rw [List.length_map] at h
  rw [h]
  show es.length = (es.map _).length
  rw [List.length_map]
theorem tight {w : World} {mb n : Nat} {D : DataW Unit} (h : w.ownsMap Try.prog 9 tmElem mb n D) : w.ownsMap Try.prog 9 tmElem mb (Maps.size D) D := by
  obtain ⟨es, clock, hb, F, hs, hD⟩ := h
  refine ⟨es, clock, hb, F, ?_, hD⟩
  rw [hD]
  show es.size ≤ List.length _
  rw [length_read]
  exact Nat.le_refl _
theorem TmsAt.len {w : World} {mb : Nat} {l : Ts} (h : TmsAt w mb l) (hr : (l.map (·.1)).Nodup) (ty : TypeId) : (Builtin.len_ #[47] ty #[.map (some mb)]).run Try.prog w = .ok (.int .i64 (l.length : Int)) w := by
  obtain ⟨n, D, hown, hM⟩ := h
  rw [hown.len und47 ty, names_size hown hr hM]
theorem upd_of {w w' : World} {mb : Nat} (h : w.mapTurned w' mb) : Upd mb w w' := by
  have hg := h.grown
  exact ⟨hg.os, hg.tape, hg.output, hg.size, fun i hi hne => hg.block i hi (by simpa using hne)⟩
theorem TmsAt.store {w : World} {mb : Nat} {l : Ts} (h : TmsAt w mb l) (hr : (l.map (·.1)).Nodup) (hl : l.length < maxLen) (k : List UInt8) (hk : k.length ≤ maxLen) (a : Int) (t : Nat) :
    ∃ w', (Instr.mapUpdate 47 (.map (some mb)) (.string (strL k)) (.agg #[.string (strL k), .int .i64 a, .int .u64 (t : Int)])).run Try.prog w = .ok () w' ∧ TmsAt w' mb (setT k a t l) ∧ Upd mb w w' := by
  obtain ⟨n, D, hown, hM⟩ := h
  have hsz := names_size hown hr hM
  have hown2 := tight hown
  obtain ⟨w1, hput, hown1, hturn1⟩ := hown2.store law9 und47 (by omega) (key_of k hk) (tmElem_of (k, a, t))
  refine ⟨w1, hput, ⟨_, _, hown1, fun x => ?_, fun x => ?_⟩, upd_of hturn1⟩
  · rw [findT_set]
    by_cases e : x = k
    · subst e
      rw [if_pos rfl, atKey_put_same hown.isMap (isKeyLit_str _)]; rfl
    · rw [if_neg e, atKey_put_other (lit_ne e), hM.at_]
  · rw [findT_set]
    by_cases e : x = k
    · subst e
      rw [if_pos rfl, has_put_same hown.isMap (isKeyLit_str _)]; rfl
    · rw [if_neg e, has_put_other (lit_ne e), hM.has_]
theorem TmsAt.drop {w : World} {mb : Nat} {l : Ts} (h : TmsAt w mb l) (k : List UInt8) (hk : k.length ≤ maxLen) (ty : TypeId) :
    ∃ w', (Builtin.delete_ #[47, 9] ty #[.map (some mb), .string (strL k)]).run Try.prog w = .ok (.tuple #[]) w' ∧ TmsAt w' mb (dropT k l) ∧ Upd mb w w' := by
  obtain ⟨n, D, hown, hM⟩ := h
  obtain ⟨w1, hput, hown1, hturn1⟩ := hown.drop law9 und47 (key_of k hk) ty
  refine ⟨w1, hput, ⟨_, _, hown1, fun x => ?_, fun x => ?_⟩, upd_of hturn1⟩
  · rw [findT_drop]
    by_cases e : x = k
    · subst e
      rw [if_pos rfl, atKey_del_same]; rfl
    · rw [if_neg e, atKey_del_other (lit_ne e), hM.at_]
  · rw [findT_drop]
    by_cases e : x = k
    · subst e
      rw [if_pos rfl, has_del_same]; rfl
    · rw [if_neg e, has_del_other (lit_ne e), hM.has_]
theorem drop_none {w : World} (k : List UInt8) (hk : k.length ≤ maxLen) (ty : TypeId) : (Builtin.delete_ #[47, 9] ty #[.map none, .string (strL k)]).run Try.prog w = .ok (.tuple #[]) w := Maps.drop_nil law9 und47 (key_of k hk) ty
theorem len_none {w : World} (ty : TypeId) : (Builtin.len_ #[47] ty #[.map none]).run Try.prog w = .ok (.int .i64 0) w := Maps.len_nil und47 ty
end Go.Proofs.Ytklkonmdllgeeaa
