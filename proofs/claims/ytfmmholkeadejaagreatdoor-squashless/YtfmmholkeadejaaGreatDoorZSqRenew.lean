/- renew (131). -/
import Derived.Test.YtfmmholkeadejaaGreatDoorZSqOrder
namespace Go.Proofs.YtfmmholkeadejaaGreatDoor
open Go.RowKit

/-- The name beside. -/
def comB (nm : ByteArray) : ByteArray := nm ++ (⟨#[46, 110, 101, 119]⟩ : ByteArray)
/-- The disk behind each step, and the errors. -/
def rn1 (S : Dk) (nm : ByteArray) : Dk := delS S (comB nm)
def rn2 (S : Dk) (nm : ByteArray) (rs : List ByteArray) : Dk := laysT (rn1 S nm) (comB nm) rs
def rn3 (S : Dk) (nm : ByteArray) (rs : List ByteArray) : Dk := setS (rn2 S nm rs) (comB nm)
def rn4 (S : Dk) (nm : ByteArray) (rs : List ByteArray) : Dk := renS (rn3 S nm rs) (comB nm) nm
def rnA (S : Dk) (nm : ByteArray) : Int := unlE (eachE S (comB nm))
def rnB (S : Dk) (nm : ByteArray) (rs : List ByteArray) : Int := laysE (rn1 S nm) rs
def rnC (S : Dk) (nm : ByteArray) (rs : List ByteArray) : Int := eachE (rn2 S nm rs) (comB nm)
def rnD (S : Dk) (nm : ByteArray) (rs : List ByteArray) : Int := renE (rn3 S nm rs) (comB nm) nm
def rnE (S : Dk) (nm : ByteArray) (rs : List ByteArray) : Int := sq4E (rnA S nm) (rnB S nm rs) (rnC S nm rs) (rnD S nm rs)
def rnS (S : Dk) (nm : ByteArray) (rs : List ByteArray) : Dk := if rnA S nm ≠ 0 then rn1 S nm else if rnB S nm rs ≠ 0 then rn2 S nm rs else if rnC S nm rs ≠ 0 then rn3 S nm rs else rn4 S nm rs
/-- What stands between the steps. -/
structure Rn (w0 : World) (N : Lo) (d b : Nat) (nm : ByteArray) (a : Option Addr) (q : Nat) (rs : List ByteArray) (S : Dk) (W : World) : Prop where
  disk : DiskAt W N d S
  upd : DUpd N w0 W
  bd : Holds W b [.pointer (some ⟨d, 0, none⟩)] 43
  bn : Holds W (b + 1) [.string nm] 9
  bp : Holds W (b + 1 + 1) [.slice a rs.length q] 108
  bc : Holds W (b + 1 + 1 + 1) [.string (comB nm)] 9
  fs : Holds W (b + 1 + 1 + 1 + 1) [.func (.func 169) #[] #[.pointer (some ⟨b, 0, none⟩), .pointer (some ⟨b + 1 + 1 + 1, 0, none⟩)], .func (.func 171) #[] #[.pointer (some ⟨b, 0, none⟩), .pointer (some ⟨b + 1 + 1 + 1, 0, none⟩), .pointer (some ⟨b + 1 + 1, 0, none⟩)], .func (.func 172) #[] #[.pointer (some ⟨b, 0, none⟩), .pointer (some ⟨b + 1 + 1 + 1, 0, none⟩)], .func (.func 174) #[] #[.pointer (some ⟨b, 0, none⟩), .pointer (some ⟨b + 1 + 1 + 1, 0, none⟩), .pointer (some ⟨b + 1, 0, none⟩)]] 37
  row : StrsAt W N a rs
theorem Rn.next {w0 W W' : World} {N : Lo} {d b : Nat} {nm : ByteArray} {a : Option Addr} {q : Nat} {rs : List ByteArray} {S S' : Dk} (h : Rn w0 N d b nm a q rs S W) (hd : DiskAt W' N d S') (hu : DUpd N W W') : Rn w0 N d b nm a q rs S' W' :=
  ⟨hd, h.upd.trans hu, h.bd.dupd hu (by decide) (by decide) (by decide), h.bn.dupd hu (by decide) (by decide) (by decide), h.bp.dupd hu (by decide) (by decide) (by decide), h.bc.dupd hu (by decide) (by decide) (by decide), h.fs.dupd hu (by decide) (by decide) (by decide), h.row.dupd hu⟩
theorem eachS_len {T : Dk → Dk} (hT : ∀ S, (T S).fs.length ≤ S.fs.length) (S : Dk) (s : ByteArray) : (eachS T S s).fs.length ≤ S.fs.length := by
  unfold eachS
  split
  · split
    · have := hT (stepS S); rw [stepS_fs] at this; exact this
    · rw [stepS_fs]; exact Nat.le_refl _
  · exact Nat.le_refl _
theorem delS_len (S : Dk) (s : ByteArray) : (delS S s).fs.length ≤ S.fs.length := eachS_len (fun _ => len_del _ _) S s
set_option maxRecDepth 100000 in
theorem renew_some (N : Lo) (d : Nat) (S : Dk) (nm : ByteArray) (rs : List ByteArray) (hok : nameOk (comB nm) = true) (hnm : nm.size ≤ 32) (hr : ∀ r ∈ rs, r.size ≤ 140737488355328) (hl : rs.length < 9223372036854775808) (a : Option Addr) (q : Nat) (w : World) (h : DiskAt w N d S) (ha : StrsAt w N a rs) (hlen : S.fs.length < 256) (hG : ∀ i, N.G i → i < w.heap.size) :
    Calls Tryz.prog 131 #[.pointer (some ⟨d, 0, none⟩), .string nm, .slice a rs.length q] w fun e w' => e = .returned (.int .i64 (rnE S nm rs)) ∧ DiskAt w' N d (rnS S nm rs) ∧ DUpd N w w' := by
  have hmf : ∀ (fn : Fn) (first cap : Array Value) (w : World), (Instr.makeFunc fn first cap).run Tryz.prog w = .ok (.func fn first cap) w := fun _ _ _ _ => rfl
  have hsz : ¬ 9223372036854775807 < nm.size + 4 := by omega
  have hcs : (comB nm).size < 9223372036854775808 := by have := nameOk_le hok; omega
  obtain ⟨b, hb⟩ : ∃ b, w.heap.size = b := ⟨_, rfl⟩
  have h85 : Hid (Calls Tryz.prog 85 #[.slice (some ⟨b + 1 + 1 + 1 + 1, 0, none⟩) 4 4] (((((w.alloc (.cells #[.pointer (some ⟨d, 0, none⟩)] 43)).alloc (.cells #[.string nm] 9)).alloc (.cells #[.slice a rs.length q] 108)).alloc (.cells #[.string (nm ++ ⟨#[46, 110, 101, 119]⟩)] 9)).alloc (.cells #[.func (.func 169) #[] #[.pointer (some ⟨b, 0, none⟩), .pointer (some ⟨b + 1 + 1 + 1, 0, none⟩)], .func (.func 171) #[] #[.pointer (some ⟨b, 0, none⟩), .pointer (some ⟨b + 1 + 1 + 1, 0, none⟩), .pointer (some ⟨b + 1 + 1, 0, none⟩)], .func (.func 172) #[] #[.pointer (some ⟨b, 0, none⟩), .pointer (some ⟨b + 1 + 1 + 1, 0, none⟩)], .func (.func 174) #[] #[.pointer (some ⟨b, 0, none⟩), .pointer (some ⟨b + 1 + 1 + 1, 0, none⟩), .pointer (some ⟨b + 1, 0, none⟩)]] 37)) fun e w' => e = .returned (.int .i64 (rnE S nm rs)) ∧ DiskAt w' N d (rnS S nm rs) ∧ DUpd N w w') := by
    have hI0 : Rn w N d b nm a q rs S (((((w.alloc (.cells #[.pointer (some ⟨d, 0, none⟩)] 43)).alloc (.cells #[.string nm] 9)).alloc (.cells #[.slice a rs.length q] 108)).alloc (.cells #[.string (nm ++ ⟨#[46, 110, 101, 119]⟩)] 9)).alloc (.cells #[.func (.func 169) #[] #[.pointer (some ⟨b, 0, none⟩), .pointer (some ⟨b + 1 + 1 + 1, 0, none⟩)], .func (.func 171) #[] #[.pointer (some ⟨b, 0, none⟩), .pointer (some ⟨b + 1 + 1 + 1, 0, none⟩), .pointer (some ⟨b + 1 + 1, 0, none⟩)], .func (.func 172) #[] #[.pointer (some ⟨b, 0, none⟩), .pointer (some ⟨b + 1 + 1 + 1, 0, none⟩)], .func (.func 174) #[] #[.pointer (some ⟨b, 0, none⟩), .pointer (some ⟨b + 1 + 1 + 1, 0, none⟩), .pointer (some ⟨b + 1, 0, none⟩)]] 37)) := by
      have hu := (((((DUpd.refl N w).alloc (.cells #[.pointer (some ⟨d, 0, none⟩)] 43)).alloc (.cells #[.string nm] 9)).alloc (.cells #[.slice a rs.length q] 108)).alloc (.cells #[.string (nm ++ ⟨#[46, 110, 101, 119]⟩)] 9)).alloc (.cells #[.func (.func 169) #[] #[.pointer (some ⟨b, 0, none⟩), .pointer (some ⟨b + 1 + 1 + 1, 0, none⟩)], .func (.func 171) #[] #[.pointer (some ⟨b, 0, none⟩), .pointer (some ⟨b + 1 + 1 + 1, 0, none⟩), .pointer (some ⟨b + 1 + 1, 0, none⟩)], .func (.func 172) #[] #[.pointer (some ⟨b, 0, none⟩), .pointer (some ⟨b + 1 + 1 + 1, 0, none⟩)], .func (.func 174) #[] #[.pointer (some ⟨b, 0, none⟩), .pointer (some ⟨b + 1 + 1 + 1, 0, none⟩), .pointer (some ⟨b + 1, 0, none⟩)]] 37)
      refine ⟨((((h.alloc _).alloc _).alloc _).alloc _).alloc _, hu, ?_, ?_, ?_, ?_, ?_, ha.dupd hu⟩
      · have := holds_new w [.pointer (some ⟨d, 0, none⟩)] 43
        rw [hb] at this
        exact (((this.alloc _).alloc _).alloc _).alloc _
      · have := holds_new (w.alloc (.cells #[.pointer (some ⟨d, 0, none⟩)] 43)) [.string nm] 9
        rw [World.size_alloc, hb] at this
        exact ((this.alloc _).alloc _).alloc _
      · have := holds_new ((w.alloc (.cells #[.pointer (some ⟨d, 0, none⟩)] 43)).alloc (.cells #[.string nm] 9)) [.slice a rs.length q] 108
        rw [World.size_alloc, World.size_alloc, hb] at this
        exact (this.alloc _).alloc _
      · have := holds_new (((w.alloc (.cells #[.pointer (some ⟨d, 0, none⟩)] 43)).alloc (.cells #[.string nm] 9)).alloc (.cells #[.slice a rs.length q] 108)) [.string (comB nm)] 9
        rw [World.size_alloc, World.size_alloc, World.size_alloc, hb] at this
        exact this.alloc _
      · have := holds_new ((((w.alloc (.cells #[.pointer (some ⟨d, 0, none⟩)] 43)).alloc (.cells #[.string nm] 9)).alloc (.cells #[.slice a rs.length q] 108)).alloc (.cells #[.string (comB nm)] 9)) [.func (.func 169) #[] #[.pointer (some ⟨b, 0, none⟩), .pointer (some ⟨b + 1 + 1 + 1, 0, none⟩)], .func (.func 171) #[] #[.pointer (some ⟨b, 0, none⟩), .pointer (some ⟨b + 1 + 1 + 1, 0, none⟩), .pointer (some ⟨b + 1 + 1, 0, none⟩)], .func (.func 172) #[] #[.pointer (some ⟨b, 0, none⟩), .pointer (some ⟨b + 1 + 1 + 1, 0, none⟩)], .func (.func 174) #[] #[.pointer (some ⟨b, 0, none⟩), .pointer (some ⟨b + 1 + 1 + 1, 0, none⟩), .pointer (some ⟨b + 1, 0, none⟩)]] 37
        rw [World.size_alloc, World.size_alloc, World.size_alloc, World.size_alloc, hb] at this
        exact this
    have hfl : (rn1 S nm).fs.length < 256 := Nat.lt_of_le_of_lt (delS_len S _) hlen
    have := inOrder_renew (Rn w N d b nm a q rs S) (Rn w N d b nm a q rs (rn1 S nm)) (Rn w N d b nm a q rs (rn2 S nm rs)) (Rn w N d b nm a q rs (rn3 S nm rs)) (Rn w N d b nm a q rs (rn4 S nm rs)) (rnA S nm) (rnB S nm rs) (rnC S nm rs) (rnD S nm rs) (b + 1 + 1 + 1 + 1) 4 b (b + 1 + 1 + 1) (b + 1 + 1) (b + 1) _
      (fun W hW => by
        rcases hW with hW | hW | hW | hW
        all_goals exact ⟨hW.fs.at 0 _ rfl, hW.fs.at 1 _ rfl, hW.fs.at 2 _ rfl, hW.fs.at 3 _ rfl⟩)
      (fun W hW => (renew1 N d b (b + 1 + 1 + 1) S (comB nm) hcs W hW.disk hW.bd hW.bc).mono fun e w' ⟨e1, e2, e3⟩ => ⟨e1, hW.next e2 e3⟩)
      (fun W hW => (renew2 N d b (b + 1 + 1 + 1) (b + 1 + 1) (rn1 S nm) (comB nm) rs hok hr hl a q W hW.disk hW.row hfl (fun i hi => Nat.lt_of_lt_of_le (hG i hi) hW.upd.size) hW.bd hW.bc hW.bp).mono fun e w' ⟨e1, e2, e3⟩ => ⟨e1, hW.next e2 e3⟩)
      (fun W hW => (renew3 N d b (b + 1 + 1 + 1) (rn2 S nm rs) (comB nm) hcs W hW.disk hW.bd hW.bc).mono fun e w' ⟨e1, e2, e3⟩ => ⟨e1, hW.next e2 e3⟩)
      (fun W hW => (renew4 N d b (b + 1 + 1 + 1) (b + 1) (rn3 S nm rs) (comB nm) nm hcs (by omega) W hW.disk hW.bd hW.bc hW.bn).mono fun e w' ⟨e1, e2, e3⟩ => ⟨e1, hW.next e2 e3⟩)
      hI0
    refine this.mono fun e w' ⟨e1, e2⟩ => ⟨e1, ?_⟩
    unfold sq4I at e2
    unfold rnS
    split at e2
    · rename_i hA; rw [if_pos hA]; exact ⟨e2.disk, e2.upd⟩
    · rename_i hA
      rw [if_neg hA]
      split at e2
      · rename_i hB; rw [if_pos hB]; exact ⟨e2.disk, e2.upd⟩
      · rename_i hB
        rw [if_neg hB]
        split at e2
        · rename_i hC; rw [if_pos hC]; exact ⟨e2.disk, e2.upd⟩
        · rename_i hC; rw [if_neg hC]; exact ⟨e2.disk, e2.upd⟩
  generalize rs.length = n at *
  generalize rnE S nm rs = E at *
  clear h ha
  go_enter Tryz.func131, Tryz.ntmps131
  go_wp2_with (go_at_call 85; refine h85.out.mono ?_; rintro e w1 ⟨rfl, d1, u1⟩)
  go_ret
  exact ⟨rfl, d1, u1⟩
end Go.Proofs.YtfmmholkeadejaaGreatDoor
