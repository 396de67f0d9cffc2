/- CaskTurned: the end: the turned bytes are written as a segment, and Open finds it broken. -/
import Derived.Test.YtfmmholkeadejaaGreatDoorZCkTurn
import Derived.Test.YtfmmholkeadejaaGreatDoorZCkFull
namespace Go.Proofs.YtfmmholkeadejaaGreatDoor
open Go.RowKit

theorem xor_u8 (a b : Nat) (ha : a < 256) (hb : b < 256) : bits .xor .u8 (a : Int) (b : Int) = ((a ^^^ b : Nat) : Int) := by
  show IntKind.u8.wrap ((BitVec.ofInt 8 (a : Int) ^^^ BitVec.ofInt 8 (b : Int)).toNat : Int) = _
  rw [BitVec.toNat_xor, Pk.ofInt_nat 8 a ha, Pk.ofInt_nat 8 b hb, wrap_u8]
  have : a ^^^ b < 2 ^ 8 := Nat.xor_lt_two_pow ha hb
  omega
/-- A byte, turned. -/
theorem turned_byte (x : UInt8) (b : Nat) (hb : b < 256) (h0 : b ≠ 0) : ∃ y : UInt8, bits .xor .u8 (x.toNat : Int) (b : Int) = (y.toNat : Int) ∧ y ≠ x := by
  have hx := x.toNat_lt
  have hlt : x.toNat ^^^ b < 2 ^ 8 := Nat.xor_lt_two_pow hx hb
  refine ⟨UInt8.ofNat (x.toNat ^^^ b), ?_, fun e => ?_⟩
  · rw [xor_u8 _ _ hx hb, UInt8.toNat_ofNat', Nat.mod_eq_of_lt hlt]
  · have e := congrArg UInt8.toNat e
    rw [UInt8.toNat_ofNat', Nat.mod_eq_of_lt hlt] at e
    have : x.toNat ^^^ (x.toNat ^^^ b) = x.toNat ^^^ x.toNat := by rw [e]
    rw [← Nat.xor_assoc, Nat.xor_self, Nat.zero_xor] at this
    exact h0 this
/-- What the law writes: three parts that together are the bytes, one of them turned. -/
def TurnF (t : ByteArray) (p : Nat) (y : UInt8) : Prop := ∃ (cs : List Ch) (tl : List UInt8), (∀ c ∈ cs, c.Ok) ∧ tl ≠ [] ∧ Pk.uE (Pk.strL tl) = 13 ∧ joins [t.extract 0 p, strL [y], t.extract (p + 1) t.size] = cs.flatMap chB ++ tl
theorem turnF_of {t : ByteArray} {chs : List Ch} {p : Nat} (ht : t.data.toList = chs.flatMap chB) (ho : ∀ c ∈ chs, c.Ok) (hg : GS chs p) (hp : p < t.size) (y : UInt8) (hy : y ≠ t[p]'hp) : TurnF t p y := by
  obtain ⟨A, c, B, k, rfl, rfl, hs⟩ := hg
  have hx := get_list t _ hp
  have hc : c.Ok := ho c (by simp)
  rw [ht] at hx
  obtain ⟨tl, h1, h2, h3⟩ := turned_tail A c B hc k hs _ y hx hy
  refine ⟨A, tl, fun c hc => ho c (by simp [hc]), h2, h3, ?_⟩
  rw [← h1, ← ht]
  have hl : (A.flatMap chB).length + k < t.data.toList.length := hp
  rw [List.set_eq_take_append_cons_drop, if_pos hl]
  show [t.extract 0 _, strL [y], t.extract _ t.size].flatMap (fun s => s.data.toList) = _
  simp only [List.flatMap_cons, List.flatMap_nil, List.append_nil]
  rw [Pk.ext_head, Pk.ext_tail]
  rfl
/-- The disk behind it. -/
def turnS (t : ByteArray) (p : Nat) (y : UInt8) : Dk := stepS (layS (newS 10000) (fileB v1B 3).data.toList [t.extract 0 p, strL [y], t.extract (p + 1) t.size])
theorem turn_fs (t : ByteArray) (p : Nat) (y : UInt8) : (turnS t p y).fs = [((fileB v1B 3).data.toList, ⟨joins [t.extract 0 p, strL [y], t.extract (p + 1) t.size], 0⟩)] ∧ (turnS t p y).on = true := by
  constructor
  · unfold turnS
    rw [stepS_fs]
    rfl
  · rfl
theorem turn_append {w W : World} {d g c : Nat} {t : ByteArray} {p : Nat} {y : UInt8} (hd : DCur w W (lo0 w) d (newS 10000)) (ht : t.size ≤ 3000) (hg : Holds W g [.string (t.extract 0 p), .string (strL [y]), .string (t.extract (p + 1) t.size)] 9) :
    Calls Tryz.prog 35 #[.pointer (some ⟨d, 0, none⟩), .string (fileB v1B 3), .slice (some ⟨g, 0, none⟩) 3 c] W fun e w' => e = .returned (.int .i64 0) ∧ DCur w w' (lo0 w) d (turnS t p y) := by
  have s1 : (t.extract 0 p).size ≤ 3000 := by rw [ByteArray.size_extract]; omega
  have s3 : (t.extract (p + 1) t.size).size ≤ 3000 := by rw [ByteArray.size_extract]; omega
  have s2 : (strL [y]).size = 1 := rfl
  have hsa : StrsAt W (lo0 w) (some ⟨g, 0, none⟩) [t.extract 0 p, strL [y], t.extract (p + 1) t.size] := .inr ⟨g, 0, rfl, hg.lt, .inr (hg.foreign (by decide) (by decide) (by decide)), fun i x hx => by
    rw [Nat.zero_add]
    refine hg.at i _ ?_
    match i, hx with
    | 0, hx => simp at hx; simp [hx]
    | 1, hx => simp at hx; simp [hx]
    | 2, hx => simp at hx; simp [hx]⟩
  have hfit : fitB (newS 10000) [t.extract 0 p, strL [y], t.extract (p + 1) t.size] = true := by
    unfold fitB
    refine decide_eq_true ?_
    show 0 + lens _ ≤ 10000
    simp [lens, s2]
    omega
  refine (append_ok (lo0 w) d (newS 10000) (fileB v1B 3) rfl (fileB_ok aCap 3) [t.extract 0 p, strL [y], t.extract (p + 1) t.size] (fun s hs => by
    simp at hs
    rcases hs with rfl | rfl | rfl <;> omega) (by simp) _ c W hd.disk hsa hfit (by decide) hd.lt).mono fun e w' ⟨e1, e2, e3⟩ => ⟨e1, (hd.next e3 e2).1⟩
theorem turn_open {w W : World} {d : Nat} {t : ByteArray} {p : Nat} {y : UInt8} (hf : TurnF t p y) (hd : DCur w W (lo0 w) d (turnS t p y)) :
    Calls Tryz.prog 16 #[.pointer (some ⟨d, 0, none⟩), .string v1B] W fun e w' => e = .returned (.tuple #[.pointer none, .int .i64 24]) ∧ Below w.heap.size w w' := by
  obtain ⟨cs, tl, h1, h2, h3, h4⟩ := hf
  obtain ⟨hfs, hon⟩ := turn_fs t p y
  have hL : listK (turnS t p y) (v1B ++ (⟨#[46]⟩ : ByteArray)) = [3].map fun n => (fileB v1B n).data.toList := by
    refine listK_segs (by rw [hfs]; exact List.pairwise_singleton _ _) v1B [3] (by simp) (by simp) (fun n hn => ?_) (fun n _ => (mine_pre v1B _).2 (mine_file v1B n)) (fun k hk _ => ?_)
    · simp at hn; subst hn; rw [hfs]; simp
    · rw [hfs] at hk; simp at hk; exact ⟨3, by simp, hk⟩
  refine (open_bad (lo0 w) d (turnS t p y) hon v1B aCap 3 (by decide) (by decide) hL ⟨joins [t.extract 0 p, strL [y], t.extract (p + 1) t.size], 0⟩ (by rw [hfs]; simp [get]) cs h1 tl h2 h3 h4 W hd.disk hd.sz hd.tab hd.lt).mono fun e w' ⟨e1, e2⟩ => ⟨e1, hd.bel.trans (e2.mono hd.bel.size)⟩
end Go.Proofs.YtfmmholkeadejaaGreatDoor
