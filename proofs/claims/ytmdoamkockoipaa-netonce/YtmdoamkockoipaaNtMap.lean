/- Sets in maps: those of the pairs that are cut off, and those of nodes. -/
import Derived.Test.YtmdoamkockoipaaApp
import Derived.Test.YtmdoamkockoipaaProg
import Derived.KernelRfl
import Derived.Maps.OwnSet
import Derived.Maps.RangeWalk
import Derived.WideKeyPair
namespace Go.Proofs.Ytmdoamkockoipaa
open Go.RowKit Go.Maps Go.WideMaps

noncomputable instance : DecidableEq Lit := fun a b => Classical.propDecidable (a = b)
/-- A map as a list of its keys. -/
structure SetOf (D : DataW Unit) (L : List Lit) : Prop where
  nodup : L.Nodup
  has_ : ∀ kl, WideAt.IsKeyLit kl → has D kl = decide (kl ∈ L)
  size_ : Maps.size D = L.length
def SetAt (k : TypeId) (w : World) (mb : Nat) (L : List Lit) : Prop := ∃ n D, w.ownsMap Try.prog k unitElem mb n D ∧ SetOf D L
/-- The keys with one more. -/
noncomputable def addK (kl : Lit) (L : List Lit) : List Lit := if kl ∈ L then L else L ++ [kl]
noncomputable def delK (kl : Lit) (L : List Lit) : List Lit := L.filter fun x => decide (x ≠ kl)
theorem mem_addK {x kl : Lit} {L : List Lit} : x ∈ addK kl L ↔ x ∈ L ∨ x = kl := by
  unfold addK
  split
  · rename_i h
    constructor
    · exact .inl
    · rintro (h' | rfl)
      · exact h'
      · exact h
  · simp
theorem nodup_addK {kl : Lit} {L : List Lit} (h : L.Nodup) : (addK kl L).Nodup := by
  unfold addK
  split
  · exact h
  · rename_i hn
    exact List.nodup_append.2 ⟨h, by simp, fun a ha b hb => by simp at hb; subst hb; exact fun e => hn (e ▸ ha)⟩
theorem mem_delK {x kl : Lit} {L : List Lit} : x ∈ delK kl L ↔ x ∈ L ∧ x ≠ kl := by simp [delK]
theorem und44 : Try.prog.underlying 44 = some (.map 54 53) := by kernel_rfl
theorem und61 : Try.prog.underlying 61 = some (.map 3 53) := by kernel_rfl
theorem und3 : Try.prog.underlying 3 = some (.int .i64) := by kernel_rfl
theorem arr54 : ArrKey Try.prog 54 3 2 := ⟨by kernel_rfl, by kernel_rfl, by kernel_rfl, by kernel_rfl⟩
theorem law54 : Keyed Try.prog 54 := Keyed.of_law arr54.law
theorem law3 : Keyed Try.prog 3 := int_keyed und3
theorem zero53 (w : World) : (zeroValue 53).run Try.prog w = .ok (.agg #[]) w := by kernel_rfl
theorem SetAt.same {k : TypeId} {w w' : World} {mb : Nat} {L : List Lit} (h : SetAt k w mb L) (hs : w'.heap[mb]? = w.heap[mb]?) : SetAt k w' mb L := by
  obtain ⟨n, D, ⟨es, cl, hb, r⟩, h1⟩ := h
  exact ⟨n, D, ⟨es, cl, hs.trans hb, r⟩, h1⟩
theorem SetAt.lt {k : TypeId} {w : World} {mb : Nat} {L : List Lit} (h : SetAt k w mb L) : mb < w.heap.size := by
  obtain ⟨n, D, ⟨es, cl, hb, r⟩, h1⟩ := h
  exact (Array.getElem?_eq_some_iff.1 hb).1
theorem SetAt.isMap {k : TypeId} {w : World} {mb : Nat} {L : List Lit} (h : SetAt k w mb L) : ∃ es c, w.heap[mb]? = some (Obj.map es c) := by
  obtain ⟨n, D, ⟨es, cl, hb, r⟩, h1⟩ := h
  exact ⟨es, cl, hb⟩
theorem set_made (k : TypeId) (w : World) : SetAt k (w.alloc (.map #[] 0)) w.heap.size [] :=
  ⟨0, .map [], World.ownsMap_made w Try.prog k unitElem, List.nodup_nil, fun _ _ => by simp [has], rfl⟩
theorem tight {k : TypeId} {w : World} {mb n : Nat} {D : DataW Unit} (h : w.ownsMap Try.prog k unitElem mb n D) : w.ownsMap Try.prog k unitElem mb (Maps.size D) D := by
  obtain ⟨es, clock, hb, F, hs, hD⟩ := h
  refine ⟨es, clock, hb, F, ?_, hD⟩
  rw [hD]
  show es.size ≤ List.length _
  rw [length_read]
  exact Nat.le_refl _
theorem SetAt.look {k t : TypeId} (K : Keyed Try.prog k) (ht : Try.prog.underlying t = some (.map k 53)) {w : World} {mb : Nat} {L : List Lit} (h : SetAt k w mb L) {key : Value} {kl : Lit} (hkey : keyOf Try.prog k key = some kl) :
    (Instr.lookup t (.map (some mb)) key true).run Try.prog w = .ok (.tuple #[.agg #[], .bool (decide (kl ∈ L))]) w := by
  obtain ⟨n, D, hown, hM⟩ := h
  obtain ⟨v, ps, hr, hv⟩ := hown.look_ok K ht (zero53 w) unitElem_mk hkey
  rw [hr, (unitElem_inv hv).1, hM.has_ kl (K.key hkey)]
theorem look_none {k t : TypeId} (K : Keyed Try.prog k) (ht : Try.prog.underlying t = some (.map k 53)) {w : World} {key : Value} {kl : Lit} (hkey : keyOf Try.prog k key = some kl) :
    (Instr.lookup t (.map none) key true).run Try.prog w = .ok (.tuple #[.agg #[], .bool false]) w := by
  rw [Maps.look_nil true K ht (zero53 w) hkey]; rfl
theorem SetAt.len {k t : TypeId} (ht : Try.prog.underlying t = some (.map k 53)) {w : World} {mb : Nat} {L : List Lit} (h : SetAt k w mb L) (ty : TypeId) : (Builtin.len_ #[t] ty #[.map (some mb)]).run Try.prog w = .ok (.int .i64 (L.length : Int)) w := by
  obtain ⟨n, D, hown, hM⟩ := h
  rw [hown.len ht ty, hM.size_]
theorem len_none {k t : TypeId} (ht : Try.prog.underlying t = some (.map k 53)) {w : World} (ty : TypeId) : (Builtin.len_ #[t] ty #[.map none]).run Try.prog w = .ok (.int .i64 0) w := Maps.len_nil ht ty
theorem upd_of {w w' : World} {mb : Nat} (h : w.mapTurned w' mb) : Upd mb w w' := by
  have hg := h.grown
  exact ⟨hg.os, hg.tape, hg.output, hg.size, fun i hi hne => hg.block i hi (by simpa using hne)⟩
theorem setOf_put {w : World} {k : TypeId} (K : Keyed Try.prog k) {mb n : Nat} {D : DataW Unit} (hown : w.ownsMap Try.prog k unitElem mb n D) {L : List Lit} (hM : SetOf D L) {kl : Lit} (hk : WideAt.IsKeyLit kl) : SetOf (D.put kl (.agg [])) (addK kl L) := by
  refine ⟨nodup_addK hM.nodup, fun x hx => ?_, ?_⟩
  · by_cases e : x = kl
    · subst e
      rw [has_put_same hown.isMap hk]
      exact (decide_eq_true (mem_addK.2 (.inr rfl))).symm
    · rw [has_put_other e, hM.has_ x hx]
      simp [mem_addK, e]
  · rw [size_put (hown.tidy K), hM.has_ kl hk, hM.size_]
    unfold addK
    by_cases e : kl ∈ L
    · simp [e]
    · simp [e]
theorem del_len {L : List Lit} (hn : L.Nodup) (kl : Lit) : (delK kl L).length + (if kl ∈ L then 1 else 0) = L.length := by
  induction L with
  | nil => simp [delK]
  | cons a L ih =>
    obtain ⟨h1, h2⟩ := List.nodup_cons.1 hn
    have h := ih h2
    by_cases e : a = kl
    · subst e
      have e1 : delK a (a :: L) = delK a L := by simp [delK]
      have e2 : delK a L = L := List.filter_eq_self.2 (fun x hx => decide_eq_true (fun q => h1 (q ▸ hx)))
      rw [e1, e2, if_pos (by simp)]; rfl
    · have e1 : delK kl (a :: L) = a :: delK kl L := by simp [delK, e]
      rw [e1, List.length_cons, List.length_cons]
      by_cases q : kl ∈ L
      · rw [if_pos q] at h
        rw [if_pos (List.mem_cons_of_mem _ q)]; omega
      · rw [if_neg q] at h
        rw [if_neg (fun r => (List.mem_cons.1 r).elim (fun r => e r.symm) q)]; omega
theorem setOf_del {w : World} {k : TypeId} (K : Keyed Try.prog k) {mb n : Nat} {D : DataW Unit} (hown : w.ownsMap Try.prog k unitElem mb n D) {L : List Lit} (hM : SetOf D L) {kl : Lit} (hk : WideAt.IsKeyLit kl) : SetOf (D.del kl) (delK kl L) := by
  refine ⟨hM.nodup.filter _, fun x hx => ?_, ?_⟩
  · by_cases e : x = kl
    · subst e
      rw [has_del_same]; simp [mem_delK]
    · rw [has_del_other e, hM.has_ x hx]
      simp [mem_delK, e]
  · have h := size_del (k := kl) (hown.tidy K)
    rw [hM.has_ kl hk, hM.size_] at h
    have e2 : (delK kl L).length + (if kl ∈ L then 1 else 0) = L.length := del_len hM.nodup kl
    by_cases e : kl ∈ L
    · simp [e] at h e2; omega
    · simp [e] at h e2; omega
theorem SetAt.store {k t : TypeId} (K : Keyed Try.prog k) (ht : Try.prog.underlying t = some (.map k 53)) {w : World} {mb : Nat} {L : List Lit} (h : SetAt k w mb L) (hl : L.length < maxLen) {key : Value} {kl : Lit} (hkey : keyOf Try.prog k key = some kl) :
    ∃ w', (Instr.mapUpdate t (.map (some mb)) key (.agg #[])).run Try.prog w = .ok () w' ∧ SetAt k w' mb (addK kl L) ∧ Upd mb w w' := by
  obtain ⟨n, D, hown, hM⟩ := h
  obtain ⟨w1, hput, hown1, hturn1⟩ := (tight hown).store K ht (by rw [hM.size_]; exact hl) hkey unitElem_mk
  exact ⟨w1, hput, ⟨_, _, hown1, setOf_put K hown hM (K.key hkey)⟩, upd_of hturn1⟩
/-- Two nodes as a key. -/
def keyP (p : Int × Int) : Lit := .string (keyBytes [.int .i64 p.1, .int .i64 p.2])
def pairV (p : Int × Int) : Value := .agg #[.int .i64 p.1, .int .i64 p.2]
def okI (a : Int) : Prop := (Lit.int .i64 a).wf = true
def okP (p : Int × Int) : Prop := okI p.1 ∧ okI p.2
theorem key_pair {p : Int × Int} (h : okP p) : keyOf Try.prog 54 (pairV p) = some (keyP p) := keyOf_pair arr54 und3 ⟨82, by kernel_rfl⟩ h.1 h.2
theorem key_int {a : Int} (h : okI a) : keyOf Try.prog 3 (.int .i64 a) = some (.int .i64 a) := keyOf_int_mk und3 h
theorem keyP_inj {p q : Int × Int} (hp : okP p) (hq : okP q) (h : keyP p = keyP q) : p = q := by
  have h1 := key_pair hp
  have h2 := key_pair hq
  rw [h] at h1
  have e := law54.inj h1 h2
  obtain ⟨a, b⟩ := p
  obtain ⟨c, d⟩ := q
  simp [pairV] at e
  rw [e.1, e.2]
theorem okI_iff (a : Int) : okI a ↔ -9223372036854775808 ≤ a ∧ a ≤ 9223372036854775807 := by
  unfold okI Lit.wf
  simp [IntKind.min, IntKind.max, IntKind.bits, IntKind.signed]
theorem keyLit_pair (p : Int × Int) : WideAt.IsKeyLit (keyP p) := trivial
end Go.Proofs.Ytmdoamkockoipaa
