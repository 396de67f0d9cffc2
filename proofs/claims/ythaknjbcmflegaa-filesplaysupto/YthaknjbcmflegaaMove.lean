/- A file is called otherwise. -/
import Derived.Test.YthaknjbcmflegaaClose
namespace Go.Proofs.Ythaknjbcmflegaa
open Go.RowKit Go.Maps Go.WideMaps

theorem Dk.FineAt.move {S : Dk} {st : Int} (h : S.FineAt st) (k t : List UInt8) (f : Fl) (hf : get S.fs k = some f) (ht : t.length ≤ 32) : (moveS S k t).FineAt st := by
  have e : oldF S k = f := oldF_some hf
  have h1 := len_del_some S.fs k f hf
  have h2 := len_put_le (del k S.fs) t f
  have h3 := used_put (h.rise.del k) t f
  have h4 := used_del S.fs k
  rw [lenAt_some hf] at h4
  have h5 := h.len
  have h6 := h.used
  unfold moveS
  rw [e]
  refine ⟨⟨(h.rise.del k).put t f, by show (Ythaknjbcmflegaa.put t f (del k S.fs)).length ≤ 256; omega, by show Ythaknjbcmflegaa.used (Ythaknjbcmflegaa.put t f (del k S.fs)) ≤ 16777216; omega, h.room, fun p hp => ?_, h.ahead⟩, h.tie⟩
  rcases mem_put t f _ p hp with e | hp
  · rw [e]; exact ht
  · exact h.keys p ((del_sub k S.fs).subset hp)
theorem OpenAt.move {w w1 w2 : World} {N d mb n n1 n2 b : Nat} {S : Dk} {st : Int} {A : List UInt8 → Option Nat} {V : List UInt8 → Value} {D : DataW Unit} (h : OpenAt w N d S (.map (some mb)) st A V) (hNm : N ≤ mb) (hown : w.ownsMap Try.prog 9 ptrElem mb n D) (hat : ∀ k, D.atKey (.string k) .nil = tok (A k)) (hhas : ∀ k, has D (.string k) = (A k).isSome)
    (k t : List UInt8) (f : Fl) (hf : get S.fs k = some f) (hk : A k = some b) (ht : t.length ≤ 32) (h1 : w1.ownsMap Try.prog 9 ptrElem mb n1 (D.del (.string k))) (hg1 : w.grownBy w1 (some mb)) (h2 : w2.ownsMap Try.prog 9 ptrElem mb n2 ((D.del (.string k)).put (.string t) (tok (some b)))) (hg2 : w1.grownBy w2 (some mb)) :
    DiskAt w2 N d (moveS S k t) ∧ DUpd N w w2 := by
  obtain ⟨o1, u1⟩ := h.drop hNm hown hat hhas k h1 hg1
  obtain ⟨u2, c2⟩ := turned_dupd hg2 hNm h1
  obtain ⟨_, c1⟩ := turned_dupd hg1 hNm hown
  have hat1 : ∀ x, (D.del (.string k)).atKey (.string x) .nil = tok (upd A k none x) := fun x => by
    by_cases e : x = k
    · subst e
      rw [upd_same, atKey_del_same]; rfl
    · rw [upd_other _ _ e, atKey_del_other (lit_ne e), hat]
  have hhas1 : ∀ x, has (D.del (.string k)) (.string x) = (upd A k none x).isSome := fun x => by
    by_cases e : x = k
    · subst e
      rw [upd_same, has_del_same]; rfl
    · rw [upd_other _ _ e, has_del_other (lit_ne e), hhas]
  have hF := h.files.move h.fine.rise k t b f hk hf
  have e : moveS S k t = { S with fs := put t f (del k S.fs) } := by rw [moveS, oldF_some hf]
  refine ⟨⟨.map (some mb), st, upd (upd A k none) t (some b), upd V t (V k), ?_, h.le, map_put h1 hat1 hhas1 t b h2 hNm, ?_, h.fine.move k t f hf ht⟩, u1.trans u2⟩
  · rw [e]
    exact (o1.holds.cellsKept c2 : Holds w2 d (diskV (.map (some mb)) st (dropS S k)) 50)
  · rw [e]
    exact hF.same (fun i cs t fr hi _ => by
      have e1 := c1 i cs t fr hi
      rw [← e1] at hi
      exact (c2 i cs t fr hi).trans e1)
set_option maxHeartbeats 1600000 in
set_option maxRecDepth 100000 in
theorem move_do (N d : Nat) (S : Dk) (s0 s t : ByteArray) (hs : s.size ≤ 32) (ht : t.size ≤ 32) (f : Fl) (hf : get S.fs s.data.toList = some f) (bx bf bt : Nat) (w : World) (h : DiskAt w N d S) (hx : Holds w bx [.pointer (some ⟨d, 0, none⟩)] 24) (hxf : Holds w bf [.string s] 9) (hxt : Holds w bt [.string t] 9) :
    Calls Try.prog 53 #[.string s0, .pointer (some ⟨bx, 0, none⟩), .pointer (some ⟨bf, 0, none⟩), .pointer (some ⟨bt, 0, none⟩)] w fun e w' => e = .returned (.tuple #[]) ∧ DiskAt w' N d (moveS S s.data.toList t.data.toList) ∧ DUpd N w w' := by
  obtain ⟨mv, st, A, V, ho⟩ := h.open
  have hkey := key_of s (by unfold maxLen; omega)
  have hkey2 := key_of t (by unfold maxLen; omega)
  obtain ⟨b, hb0, _⟩ := ho.files.file _ f hf
  rcases ho.map with ⟨rfl, hn⟩ | ⟨mb, n, D, rfl, hNm, hown, hat, hhas⟩
  · rw [hn] at hb0; cases hb0
  have hsz : Maps.size D ≤ 256 := by
    rw [size_files hown ho.fine.rise (fun k => by rw [hhas, ho.files.some_iff])]
    exact ho.fine.len
  have hlk : (Instr.lookup 48 (.map (some mb)) (.string s) false).run Try.prog w.drew = .ok (.pointer (some ⟨b, 0, none⟩)) w.drew := by
    have := (show MapAt w.drew N (.map (some mb)) A from ho.map).look s (by unfold maxLen; omega)
    rw [hb0] at this
    exact this
  have hown' : w.drew.drew.ownsMap Try.prog 9 ptrElem mb (Maps.size D) D := ownsMap_tight hown
  obtain ⟨w1, hdel, hown1, hturn1⟩ := hown'.drop law9 und48 hkey 0
  obtain ⟨w2, hput, hown2, hturn2⟩ := (show w1.drew.ownsMap Try.prog 9 ptrElem mb (Maps.size D) (D.del (.string s.data.toList)) from hown1).store law9 und48 (by unfold maxLen; omega) hkey2 (val := .pointer (some ⟨b, 0, none⟩)) (d := tok (some b)) (ps := []) rfl
  have g1 := hturn1.grown
  have g2 := hturn2.grown
  have hg1 : w.grownBy w1 (some mb) := ⟨g1.os, g1.tape, g1.output, g1.size, g1.block⟩
  have hg2 : w1.grownBy w2 (some mb) := ⟨g2.os, g2.tape, g2.output, g2.size, g2.block⟩
  clear g1 g2
  obtain ⟨K1, K2⟩ := ho.move hNm hown hat hhas s.data.toList t.data.toList f hf hb0 ht hown1 hg1 hown2 hg2
  have HK1 : Hid (DiskAt w2 N d (moveS S s.data.toList t.data.toList)) := K1
  have HK2 : Hid (DUpd N w w2) := K2
  obtain ⟨_, c1⟩ := turned_dupd hg1 hNm hown
  have a0 := ho.holds.at 0 _ rfl
  have a1 := hx.at 0 _ rfl
  have a2 := hxf.at 0 _ rfl
  have a3 := hxt.at 0 _ rfl
  have b0 := (ho.holds.cellsKept c1).at 0 _ rfl
  have b1 := (hx.cellsKept c1).at 0 _ rfl
  have b2 := (hxf.cellsKept c1).at 0 _ rfl
  have b3 := (hxt.cellsKept c1).at 0 _ rfl
  clear ho hx hxf hxt hf hb0 h hat hhas K1 K2 c1 hg1 hg2 hturn1 hturn2 hown hown1 hown2 hown'
  go_enter Try.func53, Try.ntmps53
  go_wp2_with fail
  go_region
  all_goals
    go_wp2_with fail
    go_region
  all_goals
    go_wp2_with fail
    go_region
  all_goals
    go_wp2
    go_end0
    exact ⟨rfl, HK1.out, HK2.out⟩
end Go.Proofs.Ythaknjbcmflegaa
