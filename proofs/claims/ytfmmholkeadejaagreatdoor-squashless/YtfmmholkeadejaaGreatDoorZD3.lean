/- Close, Move, Each, Sync. -/
import Derived.Test.YtfmmholkeadejaaGreatDoorZAppend
/- What is done with a file that was named: made firm, removed, called otherwise. -/
namespace Go.Proofs.YtfmmholkeadejaaGreatDoor
open Go.RowKit Go.Maps Go.WideMaps

def syncS (S : Dk) (k : List UInt8) : Dk := { S with fs := put k ⟨(oldF S k).bytes, (oldF S k).bytes.length⟩ S.fs }
def dropS (S : Dk) (k : List UInt8) : Dk := { S with fs := del k S.fs }
def moveS (S : Dk) (k t : List UInt8) : Dk := { S with fs := put t (oldF S k) (del k S.fs) }
theorem oldF_some {S : Dk} {k : List UInt8} {f : Fl} (h : get S.fs k = some f) : oldF S k = f := by rw [oldF, h]

theorem sync_do (N : Lo) (d : Nat) (S : Dk) (s : ByteArray) (hs : s.size ≤ 32) (f : Fl) (hf : get S.fs s.data.toList = some f) (bx : Nat) (w : World) (h : DiskAt w N d S) (hx : Holds w bx [.pointer (some ⟨d, 0, none⟩)] 43) :
    Calls Tryz.prog 202 #[.string s, .pointer (some ⟨bx, 0, none⟩)] w fun e w' => e = .returned (.tuple #[]) ∧ DiskAt w' N d (syncS S s.data.toList) ∧ DUpd N w w' := by
  obtain ⟨mv, st, A, V, ho⟩ := h.open
  have c0 := ho.holds.at 0 _ rfl
  have cx := hx.at 0 _ rfl
  have hlk := ho.map.look s (by unfold maxLen; omega)
  obtain ⟨b, hb0, _⟩ := ho.files.file _ f hf
  rw [hb0] at hlk
  simp only [tokV] at hlk
  have hst : Hid (Calls Tryz.prog 71 #[.pointer (some ⟨b, 0, none⟩)] w fun e w' => e = .returned (.tuple #[]) ∧ DiskAt w' N d (syncS S s.data.toList) ∧ DUpd N w w') := by
    refine (settle_file N d b S s.data.toList f w ⟨mv, st, A, V, ho, hb0⟩ hf).mono fun e w' ⟨h1, h2, h3⟩ => ⟨h1, ?_, h3⟩
    rw [syncS, oldF_some hf]
    exact h2.disk
  clear ho hx hf hb0 h
  go_enter Tryz.func202, Tryz.ntmps202
  go_wp2_with (go_at_call 71; refine hst.out.mono ?_; rintro e w2 ⟨rfl, d2, u2⟩)
  go_end0
  exact ⟨rfl, d2, u2⟩

/-- The map block is turned, and nothing else. -/
theorem turned_dupd {w w1 : World} {N : Lo} {mb n : Nat} {D : DataW Unit} (hg : w.grownBy w1 (some mb)) (hN : N ≤ mb ∧ ¬ N.G mb) (hown : w.ownsMap Tryz.prog 9 ptrElem mb n D) : DUpd N w w1 ∧ (∀ (i : Nat) cs t fr, w.heap[i]? = some (Obj.cells cs t fr) → w1.heap[i]? = w.heap[i]?) := by
  have hc : ∀ (i : Nat) cs t fr, w.heap[i]? = some (Obj.cells cs t fr) → w1.heap[i]? = w.heap[i]? := fun i cs t fr hi => hg.block i (Array.getElem?_eq_some_iff.1 hi).1 (fun e => by
    obtain ⟨es, cl, h1, _⟩ := hown
    obtain rfl : i = mb := by simpa using e
    rw [h1] at hi; cases hi)
  refine ⟨⟨hg.os, hg.tape, hg.output, hg.size, fun i hi hcc => ?_⟩, hc⟩
  rcases hcc with (hcc | ⟨hcc, _⟩) | ⟨cs, t, fr, hcc, _⟩
  · exact hg.block i hi (by simp; omega)
  · exact hg.block i hi (fun e => hN.2 (by obtain rfl : i = mb := by simpa using e
                                           exact hcc))
  · exact hc i cs t fr hcc
theorem Holds.cellsKept {w w1 : World} {b : Nat} {cs : List Value} {t : TypeId} (h : Holds w b cs t) (hc : ∀ (i : Nat) cs t fr, w.heap[i]? = some (Obj.cells cs t fr) → w1.heap[i]? = w.heap[i]?) : Holds w1 b cs t := by
  unfold Holds at h ⊢
  rw [hc b _ _ _ h]; exact h
theorem Dk.FineAt.drop {S : Dk} {st : Int} (h : S.FineAt st) (k : List UInt8) : (dropS S k).FineAt st :=
  ⟨⟨h.rise.del k, by show (del k S.fs).length ≤ 256; have := len_del S.fs k; have := h.len; omega, by show YtfmmholkeadejaaGreatDoor.used (del k S.fs) ≤ 16777216; have := used_del S.fs k; have := h.used; omega, h.room, fun p hp => h.keys p ((del_sub k S.fs).subset hp), h.ahead⟩, h.tie⟩
theorem OpenAt.drop {w w1 : World} {N : Lo} {d mb n n1 : Nat} {S : Dk} {st : Int} {A : List UInt8 → Option Nat} {V : List UInt8 → Value} {D : DataW Unit} (h : OpenAt w N d S (.map (some mb)) st A V) (hNm : N ≤ mb ∧ ¬ N.G mb) (hown : w.ownsMap Tryz.prog 9 ptrElem mb n D) (hat : ∀ k, D.atKey (.string k) .nil = tok (A k)) (hhas : ∀ k, has D (.string k) = (A k).isSome)
    (k : List UInt8) (h1 : w1.ownsMap Tryz.prog 9 ptrElem mb n1 (D.del (.string k))) (hg : w.grownBy w1 (some mb)) : OpenAt w1 N d (dropS S k) (.map (some mb)) st (upd A k none) V ∧ DUpd N w w1 := by
  obtain ⟨u, hc⟩ := turned_dupd hg hNm hown
  exact ⟨⟨h.holds.cellsKept hc, h.le, map_del hat hhas k h1 hNm, (h.files.drop h.fine.rise k).same (fun i cs t fr hi _ => hc i cs t fr hi), h.fine.drop k⟩, u⟩
set_option maxHeartbeats 800000 in
theorem remove_do (N : Lo) (d : Nat) (S : Dk) (s : ByteArray) (hs : s.size ≤ 32) (f : Fl) (hf : get S.fs s.data.toList = some f) (bx : Nat) (w : World) (h : DiskAt w N d S) (hx : Holds w bx [.pointer (some ⟨d, 0, none⟩)] 43) :
    Calls Tryz.prog 138 #[.string s, .pointer (some ⟨bx, 0, none⟩)] w fun e w' => e = .returned (.tuple #[]) ∧ DiskAt w' N d (dropS S s.data.toList) ∧ DUpd N w w' := by
  obtain ⟨mv, st, A, V, ho⟩ := h.open
  have HO : Hid (OpenAt w N d S mv st A V) := ho
  have c0 := ho.holds.at 0 _ rfl
  have cx := hx.at 0 _ rfl
  have hkey := key_of s (by unfold maxLen; omega)
  obtain ⟨b, hb0, _⟩ := ho.files.file _ f hf
  rcases ho.map with ⟨rfl, hn⟩ | ⟨mb, n, D, rfl, hNm, hown, hat, hhas⟩
  · rw [hn] at hb0; cases hb0
  have hAt : Hid (∀ k, D.atKey (.string k) .nil = tok (A k)) := hat
  have hHas : Hid (∀ k, has D (.string k) = (A k).isSome) := hhas
  clear ho hx hf hb0 h hat hhas
  go_enter Tryz.func138, Tryz.ntmps138
  go_wp2_with (first
    | (at_delete; refine wpList_delete_own _ rfl _ _ 120 9 rfl 124 law9 und120 ptrElem mb n D rfl hown _ _ rfl hkey ?_; intro w1 hown1 hturn1)
    | go_in)
  go_wp2
  go_end0
  obtain ⟨o1, u1⟩ := HO.out.drop hNm hown hAt.out hHas.out s.data.toList hown1 hturn1.grown
  exact ⟨rfl, o1.disk, u1⟩
end Go.Proofs.YtfmmholkeadejaaGreatDoor

/- A file is called otherwise. -/
namespace Go.Proofs.YtfmmholkeadejaaGreatDoor
open Go.RowKit Go.Maps Go.WideMaps

theorem Dk.FineAt.move {S : Dk} {st : Int} (h : S.FineAt st) (k t : List UInt8) (f : Fl) (hf : get S.fs k = some f) (ht : t.length ≤ 32) : (moveS S k t).FineAt st := by
  have e : oldF S k = f := oldF_some hf
  have h1 := len_del_some S.fs k f hf
  have h2 := len_put_le (del k S.fs) t f
  have h3 := used_put (h.rise.del k) t f
  have h4 := used_del S.fs k
  rw [lenAt_some hf] at h4
  have h5 := h.len
  have h6 := h.used
  unfold moveS
  rw [e]
  refine ⟨⟨(h.rise.del k).put t f, by show (YtfmmholkeadejaaGreatDoor.put t f (del k S.fs)).length ≤ 256; omega, by show YtfmmholkeadejaaGreatDoor.used (YtfmmholkeadejaaGreatDoor.put t f (del k S.fs)) ≤ 16777216; omega, h.room, fun p hp => ?_, h.ahead⟩, h.tie⟩
  rcases mem_put t f _ p hp with e | hp
  · rw [e]; exact ht
  · exact h.keys p ((del_sub k S.fs).subset hp)
theorem OpenAt.move {w w1 w2 : World} {N : Lo} {d mb n n1 n2 b : Nat} {S : Dk} {st : Int} {A : List UInt8 → Option Nat} {V : List UInt8 → Value} {D : DataW Unit} (h : OpenAt w N d S (.map (some mb)) st A V) (hNm : N ≤ mb ∧ ¬ N.G mb) (hown : w.ownsMap Tryz.prog 9 ptrElem mb n D) (hat : ∀ k, D.atKey (.string k) .nil = tok (A k)) (hhas : ∀ k, has D (.string k) = (A k).isSome)
    (k t : List UInt8) (f : Fl) (hf : get S.fs k = some f) (hk : A k = some b) (ht : t.length ≤ 32) (h1 : w1.ownsMap Tryz.prog 9 ptrElem mb n1 (D.del (.string k))) (hg1 : w.grownBy w1 (some mb)) (h2 : w2.ownsMap Tryz.prog 9 ptrElem mb n2 ((D.del (.string k)).put (.string t) (tok (some b)))) (hg2 : w1.grownBy w2 (some mb)) :
    DiskAt w2 N d (moveS S k t) ∧ DUpd N w w2 := by
  obtain ⟨o1, u1⟩ := h.drop hNm hown hat hhas k h1 hg1
  obtain ⟨u2, c2⟩ := turned_dupd hg2 hNm h1
  obtain ⟨_, c1⟩ := turned_dupd hg1 hNm hown
  have hat1 : ∀ x, (D.del (.string k)).atKey (.string x) .nil = tok (upd A k none x) := fun x => by
    by_cases e : x = k
    · subst e
      rw [upd_same, atKey_del_same]; rfl
    · rw [upd_other _ _ e, atKey_del_other (lit_ne e), hat]
  have hhas1 : ∀ x, has (D.del (.string k)) (.string x) = (upd A k none x).isSome := fun x => by
    by_cases e : x = k
    · subst e
      rw [upd_same, has_del_same]; rfl
    · rw [upd_other _ _ e, has_del_other (lit_ne e), hhas]
  have hF := h.files.move h.fine.rise k t b f hk hf
  have e : moveS S k t = { S with fs := put t f (del k S.fs) } := by rw [moveS, oldF_some hf]
  refine ⟨⟨.map (some mb), st, upd (upd A k none) t (some b), upd V t (V k), ?_, h.le, map_put h1 hat1 hhas1 t b h2 hNm, ?_, h.fine.move k t f hf ht⟩, u1.trans u2⟩
  · rw [e]
    exact (o1.holds.cellsKept c2 : Holds w2 d (diskV (.map (some mb)) st (dropS S k)) 122)
  · rw [e]
    exact hF.same (fun i cs t fr hi _ => by
      have e1 := c1 i cs t fr hi
      rw [← e1] at hi
      exact (c2 i cs t fr hi).trans e1)
set_option maxHeartbeats 1600000 in
set_option maxRecDepth 100000 in
theorem move_do (N : Lo) (d : Nat) (S : Dk) (s0 s t : ByteArray) (hs : s.size ≤ 32) (ht : t.size ≤ 32) (f : Fl) (hf : get S.fs s.data.toList = some f) (bx bf bt : Nat) (w : World) (h : DiskAt w N d S) (hx : Holds w bx [.pointer (some ⟨d, 0, none⟩)] 43) (hxf : Holds w bf [.string s] 9) (hxt : Holds w bt [.string t] 9) :
    Calls Tryz.prog 203 #[.string s0, .pointer (some ⟨bx, 0, none⟩), .pointer (some ⟨bf, 0, none⟩), .pointer (some ⟨bt, 0, none⟩)] w fun e w' => e = .returned (.tuple #[]) ∧ DiskAt w' N d (moveS S s.data.toList t.data.toList) ∧ DUpd N w w' := by
  obtain ⟨mv, st, A, V, ho⟩ := h.open
  have hkey := key_of s (by unfold maxLen; omega)
  have hkey2 := key_of t (by unfold maxLen; omega)
  obtain ⟨b, hb0, _⟩ := ho.files.file _ f hf
  rcases ho.map with ⟨rfl, hn⟩ | ⟨mb, n, D, rfl, hNm, hown, hat, hhas⟩
  · rw [hn] at hb0; cases hb0
  have hsz : Maps.size D ≤ 256 := by
    rw [size_files hown ho.fine.rise (fun k => by rw [hhas, ho.files.some_iff])]
    exact ho.fine.len
  have hlk : (Instr.lookup 120 (.map (some mb)) (.string s) false).run Tryz.prog w.drew = .ok (.pointer (some ⟨b, 0, none⟩)) w.drew := by
    have := (show MapAt w.drew N (.map (some mb)) A from ho.map).look s (by unfold maxLen; omega)
    rw [hb0] at this
    exact this
  have hown' : w.drew.drew.ownsMap Tryz.prog 9 ptrElem mb (Maps.size D) D := ownsMap_tight hown
  obtain ⟨w1, hdel, hown1, hturn1⟩ := hown'.drop law9 und120 hkey 0
  obtain ⟨w2, hput, hown2, hturn2⟩ := (show w1.drew.ownsMap Tryz.prog 9 ptrElem mb (Maps.size D) (D.del (.string s.data.toList)) from hown1).store law9 und120 (by unfold maxLen; omega) hkey2 (val := .pointer (some ⟨b, 0, none⟩)) (d := tok (some b)) (ps := []) rfl
  have g1 := hturn1.grown
  have g2 := hturn2.grown
  have hg1 : w.grownBy w1 (some mb) := ⟨g1.os, g1.tape, g1.output, g1.size, g1.block⟩
  have hg2 : w1.grownBy w2 (some mb) := ⟨g2.os, g2.tape, g2.output, g2.size, g2.block⟩
  clear g1 g2
  obtain ⟨K1, K2⟩ := ho.move hNm hown hat hhas s.data.toList t.data.toList f hf hb0 ht hown1 hg1 hown2 hg2
  have HK1 : Hid (DiskAt w2 N d (moveS S s.data.toList t.data.toList)) := K1
  have HK2 : Hid (DUpd N w w2) := K2
  obtain ⟨_, c1⟩ := turned_dupd hg1 hNm hown
  have a0 := ho.holds.at 0 _ rfl
  have a1 := hx.at 0 _ rfl
  have a2 := hxf.at 0 _ rfl
  have a3 := hxt.at 0 _ rfl
  have b0 := (ho.holds.cellsKept c1).at 0 _ rfl
  have b1 := (hx.cellsKept c1).at 0 _ rfl
  have b2 := (hxf.cellsKept c1).at 0 _ rfl
  have b3 := (hxt.cellsKept c1).at 0 _ rfl
  clear ho hx hxf hxt hf hb0 h hat hhas K1 K2 c1 hg1 hg2 hturn1 hturn2 hown hown1 hown2 hown'
  go_enter Tryz.func203, Tryz.ntmps203
  go_wp2_with fail
  go_region
  all_goals
    go_wp2_with fail
    go_region
  all_goals
    go_wp2_with fail
    go_region
  all_goals
    go_wp2
    go_end0
    exact ⟨rfl, HK1.out, HK2.out⟩
end Go.Proofs.YtfmmholkeadejaaGreatDoor

/- A step with a file that is named, up to the first error. -/
namespace Go.Proofs.YtfmmholkeadejaaGreatDoor
open Go.RowKit Go.Maps Go.WideMaps

def eachE (S : Dk) (s : ByteArray) : Int := if foundE S s = 0 then stepE S else foundE S s
def eachS (T : Dk → Dk) (S : Dk) (s : ByteArray) : Dk := if foundE S s = 0 then (if stepE S = 0 then T (stepS S) else stepS S) else S

set_option maxHeartbeats 1600000 in
set_option maxRecDepth 100000 in
theorem each_sync (N : Lo) (d : Nat) (S : Dk) (T : Dk → Dk) (s : ByteArray) (hs : s.size < 9223372036854775808) (a : Option Addr) (c : Nat) (bx : Nat) (w : World) (h : DiskAt w N d S) (ha : StrsAt w N a [s])
    (hdo : foundE S s = 0 → ∀ W S', DiskAt W N d S' → S'.fs = S.fs → DUpd N w W → Calls Tryz.prog 202 #[.string s, .pointer (some ⟨bx, 0, none⟩)] W fun e w' => e = .returned (.tuple #[]) ∧ DiskAt w' N d (T S') ∧ DUpd N W w') :
    Calls Tryz.prog 137 #[.pointer (some ⟨d, 0, none⟩), .slice a 1 c, .func (.func 202) #[] #[.pointer (some ⟨bx, 0, none⟩)]] w fun e w' => e = .returned (.int .i64 (eachE S s)) ∧ DiskAt w' N d (eachS T S s) ∧ DUpd N w w' := by
  have HA : Hid (∀ W, DUpd N w W → StrsAt W N a [s]) := fun W hW => ha.dupd hW
  have hfo : Hid (∀ W, DiskAt W N d S → Calls Tryz.prog 152 #[.pointer (some ⟨d, 0, none⟩), .string s] W fun e w' => e = .returned (.int .i64 (foundE S s)) ∧ Below W.heap.size W w') := fun W hW => found_some N d S s hs W hW
  have hst : Hid (∀ W, DiskAt W N d S → Calls Tryz.prog 81 #[.pointer (some ⟨d, 0, none⟩)] W fun e w' => e = .returned (.int .i64 (stepE S)) ∧ DiskAt w' N d (stepS S) ∧ DUpd N W w') := fun W hW => step_some N d S W hW
  have HD : Hid (DiskAt w N d S) := h
  obtain ⟨g, o, rfl, hc⟩ : ∃ g o, a = some ⟨g, o, none⟩ ∧ w.cell? ⟨g, o, none⟩ = some (.string s) := by
    rcases ha with h0 | ⟨g, o, e, _, _, hc⟩
    · cases h0
    · exact ⟨g, o, e, hc 0 s rfl⟩
  by_cases h0 : foundE S s = 0
  · have hdo' : Hid (∀ W S', DiskAt W N d S' → S'.fs = S.fs → DUpd N w W → Calls Tryz.prog 202 #[.string s, .pointer (some ⟨bx, 0, none⟩)] W fun e w' => e = .returned (.tuple #[]) ∧ DiskAt w' N d (T S') ∧ DUpd N W w') := hdo h0
    rw [h0] at hfo
    by_cases h1 : stepE S = 0
    · have e1 : eachE S s = 0 := by rw [eachE, if_pos h0, h1]
      have e2 : eachS T S s = T (stepS S) := by rw [eachS, if_pos h0, if_pos h1]
      rw [e1, e2]
      rw [h1] at hst
      clear hdo h ha h0 h1 e1 e2
      go_enter Tryz.func137, Tryz.ntmps137
      go_wp2_with fail
      go_loopw [15] (fun c wr => (c = .int .i64 0 ∧ wr = w) ∨ (c = .int .i64 1 ∧ DiskAt wr N d (T (stepS S)) ∧ DUpd N w wr)) (fun c _ => 1 - (intOf c).toNat)
      case atStart => exact .inl ⟨rfl, rfl⟩
      case round =>
        rcases hrel with ⟨rfl, rfl⟩ | ⟨rfl, hD, hU⟩
        · go_wp2_with (first
            | (go_at_call 152; refine (hfo.out _ HD.out).mono ?_; rintro e w2 ⟨rfl, b2⟩; have d2 := HD.out.below b2; have u2 : DUpd N wr w2 := DUpd.ofBelow b2)
            | (go_at_call 81; refine (hst.out _ d2).mono ?_; rintro e w3 ⟨rfl, d3, u3⟩)
            | (go_at_call 202; refine (hdo'.out _ (stepS S) d3 (stepS_fs S) (u2.trans u3)).mono ?_; rintro e w4 ⟨rfl, d4, u4⟩))
          exact ⟨.inr ⟨rfl, d4, (u2.trans u3).trans u4⟩, by simp⟩
        · go_wp2
          go_ret
          exact ⟨rfl, hD, hU⟩
    · have e1 : eachE S s = stepE S := by rw [eachE, if_pos h0]
      have e2 : eachS T S s = stepS S := by rw [eachS, if_pos h0, if_neg h1]
      rw [e1, e2]
      have hne : ((stepE S) == 0) = false := by simpa using h1
      generalize stepE S = E at *
      clear hdo h ha h0 h1 e1 e2
      go_enter Tryz.func137, Tryz.ntmps137
      go_wp2_with fail
      go_loopw [15] (fun c wr => c = .int .i64 0 ∧ wr = w) (fun c _ => 0)
      case atStart => exact ⟨rfl, rfl⟩
      case round =>
        obtain ⟨rfl, rfl⟩ := hrel
        go_wp2_with (first
          | (go_at_call 152; refine (hfo.out _ HD.out).mono ?_; rintro e w2 ⟨rfl, b2⟩; have d2 := HD.out.below b2; have u2 : DUpd N wr w2 := DUpd.ofBelow b2)
          | (go_at_call 81; refine (hst.out _ d2).mono ?_; rintro e w3 ⟨rfl, d3, u3⟩))
        go_ret
        exact ⟨rfl, d3, u2.trans u3⟩
  · have e1 : eachE S s = foundE S s := by rw [eachE, if_neg h0]
    have e2 : eachS T S s = S := by rw [eachS, if_neg h0]
    rw [e1, e2]
    have hne : ((foundE S s) == 0) = false := by simpa using h0
    generalize foundE S s = E at *
    clear hdo h ha h0 e1 e2
    go_enter Tryz.func137, Tryz.ntmps137
    go_wp2_with fail
    go_loopw [15] (fun c wr => c = .int .i64 0 ∧ wr = w) (fun c _ => 0)
    case atStart => exact ⟨rfl, rfl⟩
    case round =>
      obtain ⟨rfl, rfl⟩ := hrel
      go_wp2_with (first
        | (go_at_call 152; refine (hfo.out _ HD.out).mono ?_; rintro e w2 ⟨rfl, b2⟩; have d2 := HD.out.below b2; have u2 : DUpd N wr w2 := DUpd.ofBelow b2))
      go_ret
      exact ⟨rfl, d2, u2⟩

set_option maxHeartbeats 1600000 in
set_option maxRecDepth 100000 in
theorem each_remove (N : Lo) (d : Nat) (S : Dk) (T : Dk → Dk) (s : ByteArray) (hs : s.size < 9223372036854775808) (a : Option Addr) (c : Nat) (bx : Nat) (w : World) (h : DiskAt w N d S) (ha : StrsAt w N a [s])
    (hdo : foundE S s = 0 → ∀ W S', DiskAt W N d S' → S'.fs = S.fs → DUpd N w W → Calls Tryz.prog 138 #[.string s, .pointer (some ⟨bx, 0, none⟩)] W fun e w' => e = .returned (.tuple #[]) ∧ DiskAt w' N d (T S') ∧ DUpd N W w') :
    Calls Tryz.prog 137 #[.pointer (some ⟨d, 0, none⟩), .slice a 1 c, .func (.func 138) #[] #[.pointer (some ⟨bx, 0, none⟩)]] w fun e w' => e = .returned (.int .i64 (eachE S s)) ∧ DiskAt w' N d (eachS T S s) ∧ DUpd N w w' := by
  have HA : Hid (∀ W, DUpd N w W → StrsAt W N a [s]) := fun W hW => ha.dupd hW
  have hfo : Hid (∀ W, DiskAt W N d S → Calls Tryz.prog 152 #[.pointer (some ⟨d, 0, none⟩), .string s] W fun e w' => e = .returned (.int .i64 (foundE S s)) ∧ Below W.heap.size W w') := fun W hW => found_some N d S s hs W hW
  have hst : Hid (∀ W, DiskAt W N d S → Calls Tryz.prog 81 #[.pointer (some ⟨d, 0, none⟩)] W fun e w' => e = .returned (.int .i64 (stepE S)) ∧ DiskAt w' N d (stepS S) ∧ DUpd N W w') := fun W hW => step_some N d S W hW
  have HD : Hid (DiskAt w N d S) := h
  obtain ⟨g, o, rfl, hc⟩ : ∃ g o, a = some ⟨g, o, none⟩ ∧ w.cell? ⟨g, o, none⟩ = some (.string s) := by
    rcases ha with h0 | ⟨g, o, e, _, _, hc⟩
    · cases h0
    · exact ⟨g, o, e, hc 0 s rfl⟩
  by_cases h0 : foundE S s = 0
  · have hdo' : Hid (∀ W S', DiskAt W N d S' → S'.fs = S.fs → DUpd N w W → Calls Tryz.prog 138 #[.string s, .pointer (some ⟨bx, 0, none⟩)] W fun e w' => e = .returned (.tuple #[]) ∧ DiskAt w' N d (T S') ∧ DUpd N W w') := hdo h0
    rw [h0] at hfo
    by_cases h1 : stepE S = 0
    · have e1 : eachE S s = 0 := by rw [eachE, if_pos h0, h1]
      have e2 : eachS T S s = T (stepS S) := by rw [eachS, if_pos h0, if_pos h1]
      rw [e1, e2]
      rw [h1] at hst
      clear hdo h ha h0 h1 e1 e2
      go_enter Tryz.func137, Tryz.ntmps137
      go_wp2_with fail
      go_loopw [15] (fun c wr => (c = .int .i64 0 ∧ wr = w) ∨ (c = .int .i64 1 ∧ DiskAt wr N d (T (stepS S)) ∧ DUpd N w wr)) (fun c _ => 1 - (intOf c).toNat)
      case atStart => exact .inl ⟨rfl, rfl⟩
      case round =>
        rcases hrel with ⟨rfl, rfl⟩ | ⟨rfl, hD, hU⟩
        · go_wp2_with (first
            | (go_at_call 152; refine (hfo.out _ HD.out).mono ?_; rintro e w2 ⟨rfl, b2⟩; have d2 := HD.out.below b2; have u2 : DUpd N wr w2 := DUpd.ofBelow b2)
            | (go_at_call 81; refine (hst.out _ d2).mono ?_; rintro e w3 ⟨rfl, d3, u3⟩)
            | (go_at_call 138; refine (hdo'.out _ (stepS S) d3 (stepS_fs S) (u2.trans u3)).mono ?_; rintro e w4 ⟨rfl, d4, u4⟩))
          exact ⟨.inr ⟨rfl, d4, (u2.trans u3).trans u4⟩, by simp⟩
        · go_wp2
          go_ret
          exact ⟨rfl, hD, hU⟩
    · have e1 : eachE S s = stepE S := by rw [eachE, if_pos h0]
      have e2 : eachS T S s = stepS S := by rw [eachS, if_pos h0, if_neg h1]
      rw [e1, e2]
      have hne : ((stepE S) == 0) = false := by simpa using h1
      generalize stepE S = E at *
      clear hdo h ha h0 h1 e1 e2
      go_enter Tryz.func137, Tryz.ntmps137
      go_wp2_with fail
      go_loopw [15] (fun c wr => c = .int .i64 0 ∧ wr = w) (fun c _ => 0)
      case atStart => exact ⟨rfl, rfl⟩
      case round =>
        obtain ⟨rfl, rfl⟩ := hrel
        go_wp2_with (first
          | (go_at_call 152; refine (hfo.out _ HD.out).mono ?_; rintro e w2 ⟨rfl, b2⟩; have d2 := HD.out.below b2; have u2 : DUpd N wr w2 := DUpd.ofBelow b2)
          | (go_at_call 81; refine (hst.out _ d2).mono ?_; rintro e w3 ⟨rfl, d3, u3⟩))
        go_ret
        exact ⟨rfl, d3, u2.trans u3⟩
  · have e1 : eachE S s = foundE S s := by rw [eachE, if_neg h0]
    have e2 : eachS T S s = S := by rw [eachS, if_neg h0]
    rw [e1, e2]
    have hne : ((foundE S s) == 0) = false := by simpa using h0
    generalize foundE S s = E at *
    clear hdo h ha h0 e1 e2
    go_enter Tryz.func137, Tryz.ntmps137
    go_wp2_with fail
    go_loopw [15] (fun c wr => c = .int .i64 0 ∧ wr = w) (fun c _ => 0)
    case atStart => exact ⟨rfl, rfl⟩
    case round =>
      obtain ⟨rfl, rfl⟩ := hrel
      go_wp2_with (first
        | (go_at_call 152; refine (hfo.out _ HD.out).mono ?_; rintro e w2 ⟨rfl, b2⟩; have d2 := HD.out.below b2; have u2 : DUpd N wr w2 := DUpd.ofBelow b2))
      go_ret
      exact ⟨rfl, d2, u2⟩

set_option maxHeartbeats 1600000 in
set_option maxRecDepth 100000 in
theorem each_move (N : Lo) (d : Nat) (S : Dk) (T : Dk → Dk) (s : ByteArray) (hs : s.size < 9223372036854775808) (a : Option Addr) (c : Nat) (bx bf bt : Nat) (w : World) (h : DiskAt w N d S) (ha : StrsAt w N a [s])
    (hdo : foundE S s = 0 → ∀ W S', DiskAt W N d S' → S'.fs = S.fs → DUpd N w W → Calls Tryz.prog 203 #[.string s, .pointer (some ⟨bx, 0, none⟩), .pointer (some ⟨bf, 0, none⟩), .pointer (some ⟨bt, 0, none⟩)] W fun e w' => e = .returned (.tuple #[]) ∧ DiskAt w' N d (T S') ∧ DUpd N W w') :
    Calls Tryz.prog 137 #[.pointer (some ⟨d, 0, none⟩), .slice a 1 c, .func (.func 203) #[] #[.pointer (some ⟨bx, 0, none⟩), .pointer (some ⟨bf, 0, none⟩), .pointer (some ⟨bt, 0, none⟩)]] w fun e w' => e = .returned (.int .i64 (eachE S s)) ∧ DiskAt w' N d (eachS T S s) ∧ DUpd N w w' := by
  have HA : Hid (∀ W, DUpd N w W → StrsAt W N a [s]) := fun W hW => ha.dupd hW
  have hfo : Hid (∀ W, DiskAt W N d S → Calls Tryz.prog 152 #[.pointer (some ⟨d, 0, none⟩), .string s] W fun e w' => e = .returned (.int .i64 (foundE S s)) ∧ Below W.heap.size W w') := fun W hW => found_some N d S s hs W hW
  have hst : Hid (∀ W, DiskAt W N d S → Calls Tryz.prog 81 #[.pointer (some ⟨d, 0, none⟩)] W fun e w' => e = .returned (.int .i64 (stepE S)) ∧ DiskAt w' N d (stepS S) ∧ DUpd N W w') := fun W hW => step_some N d S W hW
  have HD : Hid (DiskAt w N d S) := h
  obtain ⟨g, o, rfl, hc⟩ : ∃ g o, a = some ⟨g, o, none⟩ ∧ w.cell? ⟨g, o, none⟩ = some (.string s) := by
    rcases ha with h0 | ⟨g, o, e, _, _, hc⟩
    · cases h0
    · exact ⟨g, o, e, hc 0 s rfl⟩
  by_cases h0 : foundE S s = 0
  · have hdo' : Hid (∀ W S', DiskAt W N d S' → S'.fs = S.fs → DUpd N w W → Calls Tryz.prog 203 #[.string s, .pointer (some ⟨bx, 0, none⟩), .pointer (some ⟨bf, 0, none⟩), .pointer (some ⟨bt, 0, none⟩)] W fun e w' => e = .returned (.tuple #[]) ∧ DiskAt w' N d (T S') ∧ DUpd N W w') := hdo h0
    rw [h0] at hfo
    by_cases h1 : stepE S = 0
    · have e1 : eachE S s = 0 := by rw [eachE, if_pos h0, h1]
      have e2 : eachS T S s = T (stepS S) := by rw [eachS, if_pos h0, if_pos h1]
      rw [e1, e2]
      rw [h1] at hst
      clear hdo h ha h0 h1 e1 e2
      go_enter Tryz.func137, Tryz.ntmps137
      go_wp2_with fail
      go_loopw [15] (fun c wr => (c = .int .i64 0 ∧ wr = w) ∨ (c = .int .i64 1 ∧ DiskAt wr N d (T (stepS S)) ∧ DUpd N w wr)) (fun c _ => 1 - (intOf c).toNat)
      case atStart => exact .inl ⟨rfl, rfl⟩
      case round =>
        rcases hrel with ⟨rfl, rfl⟩ | ⟨rfl, hD, hU⟩
        · go_wp2_with (first
            | (go_at_call 152; refine (hfo.out _ HD.out).mono ?_; rintro e w2 ⟨rfl, b2⟩; have d2 := HD.out.below b2; have u2 : DUpd N wr w2 := DUpd.ofBelow b2)
            | (go_at_call 81; refine (hst.out _ d2).mono ?_; rintro e w3 ⟨rfl, d3, u3⟩)
            | (go_at_call 203; refine (hdo'.out _ (stepS S) d3 (stepS_fs S) (u2.trans u3)).mono ?_; rintro e w4 ⟨rfl, d4, u4⟩))
          exact ⟨.inr ⟨rfl, d4, (u2.trans u3).trans u4⟩, by simp⟩
        · go_wp2
          go_ret
          exact ⟨rfl, hD, hU⟩
    · have e1 : eachE S s = stepE S := by rw [eachE, if_pos h0]
      have e2 : eachS T S s = stepS S := by rw [eachS, if_pos h0, if_neg h1]
      rw [e1, e2]
      have hne : ((stepE S) == 0) = false := by simpa using h1
      generalize stepE S = E at *
      clear hdo h ha h0 h1 e1 e2
      go_enter Tryz.func137, Tryz.ntmps137
      go_wp2_with fail
      go_loopw [15] (fun c wr => c = .int .i64 0 ∧ wr = w) (fun c _ => 0)
      case atStart => exact ⟨rfl, rfl⟩
      case round =>
        obtain ⟨rfl, rfl⟩ := hrel
        go_wp2_with (first
          | (go_at_call 152; refine (hfo.out _ HD.out).mono ?_; rintro e w2 ⟨rfl, b2⟩; have d2 := HD.out.below b2; have u2 : DUpd N wr w2 := DUpd.ofBelow b2)
          | (go_at_call 81; refine (hst.out _ d2).mono ?_; rintro e w3 ⟨rfl, d3, u3⟩))
        go_ret
        exact ⟨rfl, d3, u2.trans u3⟩
  · have e1 : eachE S s = foundE S s := by rw [eachE, if_neg h0]
    have e2 : eachS T S s = S := by rw [eachS, if_neg h0]
    rw [e1, e2]
    have hne : ((foundE S s) == 0) = false := by simpa using h0
    generalize foundE S s = E at *
    clear hdo h ha h0 e1 e2
    go_enter Tryz.func137, Tryz.ntmps137
    go_wp2_with fail
    go_loopw [15] (fun c wr => c = .int .i64 0 ∧ wr = w) (fun c _ => 0)
    case atStart => exact ⟨rfl, rfl⟩
    case round =>
      obtain ⟨rfl, rfl⟩ := hrel
      go_wp2_with (first
        | (go_at_call 152; refine (hfo.out _ HD.out).mono ?_; rintro e w2 ⟨rfl, b2⟩; have d2 := HD.out.below b2; have u2 : DUpd N wr w2 := DUpd.ofBelow b2))
      go_ret
      exact ⟨rfl, d2, u2⟩
end Go.Proofs.YtfmmholkeadejaaGreatDoor

/- Sync, Remove, Rename, each of one file. -/
namespace Go.Proofs.YtfmmholkeadejaaGreatDoor
open Go.RowKit Go.Maps Go.WideMaps

theorem each_nil (a : Option Addr) (n c : Nat) (fn : Fn) (x y : Array Value) (w : World) : Calls Tryz.prog 137 #[.pointer none, .slice a n c, .func fn x y] w fun e w' => e = .returned (.int .i64 23) ∧ w' = w := by
  go_enter Tryz.func137, Tryz.ntmps137
  go_wp2
  go_ret
  exact ⟨rfl, rfl⟩
theorem sync_nil (a : Option Addr) (n c : Nat) (w : World) : Calls Tryz.prog 173 #[.pointer none, .slice a n c] w fun e w' => e = .returned (.int .i64 23) ∧ Below w.heap.size w w' := by
  have hmf : ∀ (fn : Fn) (first cap : Array Value) (w : World), (Instr.makeFunc fn first cap).run Tryz.prog w = .ok (.func fn first cap) w := fun _ _ _ _ => rfl
  go_enter Tryz.func173, Tryz.ntmps173
  go_wp2_with (go_at_call 137; refine (each_nil _ _ _ _ _ _ _).mono ?_; rintro e w2 ⟨rfl, rfl⟩)
  go_ret
  exact ⟨rfl, (Below.refl _ _).alloc (Nat.le_refl _) _⟩
theorem remove_nil (a : Option Addr) (n c : Nat) (w : World) : Calls Tryz.prog 92 #[.pointer none, .slice a n c] w fun e w' => e = .returned (.int .i64 23) ∧ Below w.heap.size w w' := by
  have hmf : ∀ (fn : Fn) (first cap : Array Value) (w : World), (Instr.makeFunc fn first cap).run Tryz.prog w = .ok (.func fn first cap) w := fun _ _ _ _ => rfl
  go_enter Tryz.func92, Tryz.ntmps92
  go_wp2_with (go_at_call 137; refine (each_nil _ _ _ _ _ _ _).mono ?_; rintro e w2 ⟨rfl, rfl⟩)
  go_ret
  exact ⟨rfl, (Below.refl _ _).alloc (Nat.le_refl _) _⟩
theorem rename_nil (s t : ByteArray) (w : World) : Calls Tryz.prog 175 #[.pointer none, .string s, .string t] w fun e w' => e = .returned (.int .i64 23) ∧ Below w.heap.size w w' := by
  go_enter Tryz.func175, Tryz.ntmps175
  go_wp2_with (go_at_call 77; refine (named_nil _ _ _ _).mono ?_; rintro e w2 ⟨rfl, rfl⟩)
  go_ret
  exact ⟨rfl, (((((Below.refl _ _).alloc (Nat.le_refl _) _).alloc (by simp) _).alloc (by simp; omega) _).alloc (by simp; omega) _)⟩
theorem sync_one (N : Lo) (d : Nat) (S : Dk) (s : ByteArray) (hs : s.size < 9223372036854775808) (a : Option Addr) (c : Nat) (w : World) (h : DiskAt w N d S) (ha : StrsAt w N a [s]) :
    Calls Tryz.prog 173 #[.pointer (some ⟨d, 0, none⟩), .slice a 1 c] w fun e w' => e = .returned (.int .i64 (eachE S s)) ∧ DiskAt w' N d (eachS (fun S' => syncS S' s.data.toList) S s) ∧ DUpd N w w' := by
  have hmf : ∀ (fn : Fn) (first cap : Array Value) (w : World), (Instr.makeFunc fn first cap).run Tryz.prog w = .ok (.func fn first cap) w := fun _ _ _ _ => rfl
  have hu : DUpd N w (w.alloc (.cells #[.pointer (some ⟨d, 0, none⟩)] 43)) := (DUpd.refl N w).alloc _
  have hx : Holds (w.alloc (.cells #[.pointer (some ⟨d, 0, none⟩)] 43)) w.heap.size [.pointer (some ⟨d, 0, none⟩)] 43 := holds_new w [.pointer (some ⟨d, 0, none⟩)] 43
  have he : Hid (Calls Tryz.prog 137 #[.pointer (some ⟨d, 0, none⟩), .slice a 1 c, .func (.func 202) #[] #[.pointer (some ⟨w.heap.size, 0, none⟩)]] (w.alloc (.cells #[.pointer (some ⟨d, 0, none⟩)] 43)) fun e w' => e = .returned (.int .i64 (eachE S s)) ∧ DiskAt w' N d (eachS (fun S' => syncS S' s.data.toList) S s) ∧ DUpd N (w.alloc (.cells #[.pointer (some ⟨d, 0, none⟩)] 43)) w') :=
    each_sync N d S (fun S' => syncS S' s.data.toList) s hs a c w.heap.size _ (h.alloc _) (ha.dupd hu) (fun h0 W S' hW hfs hU => by
      obtain ⟨_, hok, f, hf⟩ := found_zero h0
      exact sync_do N d S' s (nameOk_le hok) f (by rw [hfs]; exact hf) _ W hW (hx.dupd hU (by decide) (by decide) (by decide)))
  have HU : Hid (DUpd N w (w.alloc (.cells #[.pointer (some ⟨d, 0, none⟩)] 43))) := hu
  generalize eachE S s = E at *
  clear h ha hx hu
  go_enter Tryz.func173, Tryz.ntmps173
  go_wp2_with (go_at_call 137; refine he.out.mono ?_; rintro e w2 ⟨rfl, d2, u2⟩)
  go_ret
  exact ⟨rfl, d2, HU.out.trans u2⟩
theorem remove_one (N : Lo) (d : Nat) (S : Dk) (s : ByteArray) (hs : s.size < 9223372036854775808) (a : Option Addr) (c : Nat) (w : World) (h : DiskAt w N d S) (ha : StrsAt w N a [s]) :
    Calls Tryz.prog 92 #[.pointer (some ⟨d, 0, none⟩), .slice a 1 c] w fun e w' => e = .returned (.int .i64 (eachE S s)) ∧ DiskAt w' N d (eachS (fun S' => dropS S' s.data.toList) S s) ∧ DUpd N w w' := by
  have hmf : ∀ (fn : Fn) (first cap : Array Value) (w : World), (Instr.makeFunc fn first cap).run Tryz.prog w = .ok (.func fn first cap) w := fun _ _ _ _ => rfl
  have hu : DUpd N w (w.alloc (.cells #[.pointer (some ⟨d, 0, none⟩)] 43)) := (DUpd.refl N w).alloc _
  have hx : Holds (w.alloc (.cells #[.pointer (some ⟨d, 0, none⟩)] 43)) w.heap.size [.pointer (some ⟨d, 0, none⟩)] 43 := holds_new w [.pointer (some ⟨d, 0, none⟩)] 43
  have he : Hid (Calls Tryz.prog 137 #[.pointer (some ⟨d, 0, none⟩), .slice a 1 c, .func (.func 138) #[] #[.pointer (some ⟨w.heap.size, 0, none⟩)]] (w.alloc (.cells #[.pointer (some ⟨d, 0, none⟩)] 43)) fun e w' => e = .returned (.int .i64 (eachE S s)) ∧ DiskAt w' N d (eachS (fun S' => dropS S' s.data.toList) S s) ∧ DUpd N (w.alloc (.cells #[.pointer (some ⟨d, 0, none⟩)] 43)) w') :=
    each_remove N d S (fun S' => dropS S' s.data.toList) s hs a c w.heap.size _ (h.alloc _) (ha.dupd hu) (fun h0 W S' hW hfs hU => by
      obtain ⟨_, hok, f, hf⟩ := found_zero h0
      exact remove_do N d S' s (nameOk_le hok) f (by rw [hfs]; exact hf) _ W hW (hx.dupd hU (by decide) (by decide) (by decide)))
  have HU : Hid (DUpd N w (w.alloc (.cells #[.pointer (some ⟨d, 0, none⟩)] 43))) := hu
  generalize eachE S s = E at *
  clear h ha hx hu
  go_enter Tryz.func92, Tryz.ntmps92
  go_wp2_with (go_at_call 137; refine he.out.mono ?_; rintro e w2 ⟨rfl, d2, u2⟩)
  go_ret
  exact ⟨rfl, d2, HU.out.trans u2⟩

/-- The world behind the boxes of Rename, with one list more, with two. -/
def boxW (w : World) (d : Nat) (s t : ByteArray) : World := ((w.alloc (.cells #[.pointer (some ⟨d, 0, none⟩)] 43)).alloc (.cells #[.string s] 9)).alloc (.cells #[.string t] 9)
theorem box_facts (w : World) (N : Lo) (d : Nat) (s t : ByteArray) : DUpd N w (boxW w d s t) ∧ (boxW w d s t).heap.size = w.heap.size + 3 ∧ Holds (boxW w d s t) w.heap.size [.pointer (some ⟨d, 0, none⟩)] 43 ∧ Holds (boxW w d s t) (w.heap.size + 1) [.string s] 9 ∧ Holds (boxW w d s t) (w.heap.size + 2) [.string t] 9 := by
  refine ⟨(((DUpd.refl N w).alloc _).alloc _).alloc _, by unfold boxW; simp, ((holds_new w [.pointer (some ⟨d, 0, none⟩)] 43).alloc _).alloc _, ?_, ?_⟩
  · have := holds_new (w.alloc (.cells #[.pointer (some ⟨d, 0, none⟩)] 43)) [.string s] 9
    rw [World.size_alloc] at this
    exact this.alloc _
  · have := holds_new ((w.alloc (.cells #[.pointer (some ⟨d, 0, none⟩)] 43)).alloc (.cells #[.string s] 9)) [.string t] 9
    rw [World.size_alloc, World.size_alloc] at this
    exact this
def renE (S : Dk) (s t : ByteArray) : Int := if namedE S [s, t] = 0 then eachE S s else namedE S [s, t]
def renS (S : Dk) (s t : ByteArray) : Dk := if namedE S [s, t] = 0 then eachS (fun S' => moveS S' s.data.toList t.data.toList) S s else S
set_option maxHeartbeats 1600000 in
theorem rename_some (N : Lo) (d : Nat) (S : Dk) (s t : ByteArray) (hs : s.size < 9223372036854775808) (ht : t.size < 9223372036854775808) (w : World) (h : DiskAt w N d S) :
    Calls Tryz.prog 175 #[.pointer (some ⟨d, 0, none⟩), .string s, .string t] w fun e w' => e = .returned (.int .i64 (renE S s t)) ∧ DiskAt w' N d (renS S s t) ∧ DUpd N w w' := by
  have hmf : ∀ (fn : Fn) (first cap : Array Value) (w : World), (Instr.makeFunc fn first cap).run Tryz.prog w = .ok (.func fn first cap) w := fun _ _ _ _ => rfl
  obtain ⟨u0, z0, x0, x1, x2⟩ := box_facts w N d s t
  have d0 : DiskAt (boxW w d s t) N d S := h.keep (fun i hi => ((((Below.refl _ w).alloc (Nat.le_refl _) _).alloc (by simp) _).alloc (by simp; omega) _ : Below w.heap.size w (boxW w d s t)).block i hi)
  have hna : Hid (Calls Tryz.prog 77 #[.pointer (some ⟨d, 0, none⟩), .slice (some ⟨w.heap.size + 3, 0, none⟩) 2 2] ((boxW w d s t).alloc (.cells #[.string s, .string t] 9)) fun e w' => e = .returned (.int .i64 (namedE S [s, t])) ∧ w' = (boxW w d s t).alloc (.cells #[.string s, .string t] 9)) := by
    have h2 := strs_two (boxW w d s t) N s t
    rw [z0] at h2
    exact named_some N d S [s, t] (by intro x hx; simp at hx; rcases hx with rfl | rfl <;> assumption) (by simp) _ 2 _ (d0.alloc _) h2
  unfold boxW at hna
  have u1 : Hid (DUpd N w ((boxW w d s t).alloc (.cells #[.string s, .string t] 9))) := u0.alloc _
  by_cases h0 : namedE S [s, t] = 0
  · have e1 : renE S s t = eachE S s := by rw [renE, if_pos h0]
    have e2 : renS S s t = eachS (fun S' => moveS S' s.data.toList t.data.toList) S s := by rw [renS, if_pos h0]
    rw [e1, e2]
    have hall : nameOk t = true := by
      unfold namedE at h0
      split at h0
      · unfold namE at h0
        split at h0
        · rename_i hq
          simp at hq
          exact hq.2
        · cases h0
      · cases h0
    have hz1 : ((boxW w d s t).alloc (.cells #[.string s, .string t] 9)).heap.size = w.heap.size + 4 := by rw [World.size_alloc, z0]
    have he : Hid (Calls Tryz.prog 137 #[.pointer (some ⟨d, 0, none⟩), .slice (some ⟨w.heap.size + 4, 0, none⟩) 1 1, .func (.func 203) #[] #[.pointer (some ⟨w.heap.size, 0, none⟩), .pointer (some ⟨w.heap.size + 1, 0, none⟩), .pointer (some ⟨w.heap.size + 2, 0, none⟩)]] (((boxW w d s t).alloc (.cells #[.string s, .string t] 9)).alloc (.cells #[.string s] 9)) fun e w' => e = .returned (.int .i64 (eachE S s)) ∧ DiskAt w' N d (eachS (fun S' => moveS S' s.data.toList t.data.toList) S s) ∧ DUpd N (((boxW w d s t).alloc (.cells #[.string s, .string t] 9)).alloc (.cells #[.string s] 9)) w') := by
      have h2 := strs_one ((boxW w d s t).alloc (.cells #[.string s, .string t] 9)) N s
      rw [hz1] at h2
      exact each_move N d S (fun S' => moveS S' s.data.toList t.data.toList) s hs _ 1 w.heap.size (w.heap.size + 1) (w.heap.size + 2) _ ((d0.alloc _).alloc _) h2 (fun h0 W S' hW hfs hU => by
        obtain ⟨_, hok, f, hf⟩ := found_zero h0
        exact move_do N d S' s s t (nameOk_le hok) (nameOk_le hall) f (by rw [hfs]; exact hf) _ _ _ W hW (((x0.alloc _).alloc _).dupd hU (by decide) (by decide) (by decide)) (((x1.alloc _).alloc _).dupd hU (by decide) (by decide) (by decide)) (((x2.alloc _).alloc _).dupd hU (by decide) (by decide) (by decide)))
    have u2 : Hid (DUpd N w (((boxW w d s t).alloc (.cells #[.string s, .string t] 9)).alloc (.cells #[.string s] 9))) := u1.out.alloc _
    unfold boxW at he
    rw [h0] at hna
    generalize eachE S s = E at *
    clear h u0 z0 x0 x1 x2 d0 h0 e1 e2 hz1
    go_enter Tryz.func175, Tryz.ntmps175
    go_wp2_with (first
      | (go_at_call 77; refine hna.out.mono ?_; rintro e w2 ⟨rfl, rfl⟩)
      | (go_at_call 137; refine he.out.mono ?_; rintro e w3 ⟨rfl, d3, u3⟩))
    go_ret
    exact ⟨rfl, d3, u2.out.trans u3⟩
  · have e1 : renE S s t = namedE S [s, t] := by rw [renE, if_neg h0]
    have e2 : renS S s t = S := by rw [renS, if_neg h0]
    rw [e1, e2]
    have dd : Hid (DiskAt ((boxW w d s t).alloc (.cells #[.string s, .string t] 9)) N d S) := d0.alloc _
    have hne : ((namedE S [s, t]) == 0) = false := by simpa using h0
    generalize namedE S [s, t] = E at *
    clear h u0 z0 x0 x1 x2 d0 h0 e1 e2
    go_enter Tryz.func175, Tryz.ntmps175
    go_wp2_with (go_at_call 77; refine hna.out.mono ?_; rintro e w2 ⟨rfl, rfl⟩)
    go_ret
    exact ⟨rfl, dd.out, u1.out⟩
end Go.Proofs.YtfmmholkeadejaaGreatDoor
