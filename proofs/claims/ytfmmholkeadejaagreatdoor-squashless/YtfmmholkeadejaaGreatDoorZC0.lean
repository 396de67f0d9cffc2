/- CkRec, CkFirst, CkName, CkParse. -/
import Derived.Lib.AppendIntMem
import Derived.Deep.AppendLies
import Derived.Test.YtfmmholkeadejaaGreatDoorZP3
import Derived.Test.YtfmmholkeadejaaGreatDoorZNames
import Derived.Test.YtfmmholkeadejaaGreatDoorZShelf
import Derived.Test.YtfmmholkeadejaaGreatDoorZD2
/- What fits into a record, and a record's bytes. -/
namespace Go.Proofs.YtfmmholkeadejaaGreatDoor
open Go.RowKit

/-- The error of a key and a value. -/
def cfE (k v : ByteArray) : Int := if k.size = 0 then 1 else if 255 < k.size ∨ 60000 < v.size then 12 else 0
theorem fits_rec (k v : ByteArray) (w : World) : Calls Tryz.prog 72 #[.string k, .string v] w fun e w' => e = .returned (.int .i64 (cfE k v)) ∧ w' = w := by
  by_cases h0 : k.size = 0
  · have he := emp_true h0
    rw [cfE, if_pos h0]
    go_enter Tryz.func72, Tryz.ntmps72
    go_wp2
    go_ret
    exact ⟨rfl, rfl⟩
  · have he := emp_false h0
    by_cases h1 : (255 : Int) < (k.size : Int)
    · rw [cfE, if_neg h0, if_pos (.inl (by omega))]
      go_enter Tryz.func72, Tryz.ntmps72
      go_wp2
      go_ret
      exact ⟨rfl, rfl⟩
    · by_cases h2 : (60000 : Int) < (v.size : Int)
      · rw [cfE, if_neg h0, if_pos (.inr (by omega))]
        go_enter Tryz.func72, Tryz.ntmps72
        go_wp2
        go_ret
        exact ⟨rfl, rfl⟩
      · rw [cfE, if_neg h0, if_neg (by omega)]
        go_enter Tryz.func72, Tryz.ntmps72
        go_wp2
        go_ret
        exact ⟨rfl, rfl⟩
theorem cfE_zero {k v : ByteArray} (h : cfE k v = 0) : 0 < k.size ∧ k.size ≤ 255 ∧ v.size ≤ 60000 := by
  unfold cfE at h
  split at h
  · cases h
  · split at h
    · cases h
    · omega
/-- A record's body. -/
def bodyL (k v : ByteArray) (dead : Bool) : List UInt8 := Pk.textL k ++ Pk.flagL dead ++ (if dead = true then [] else Pk.textL v)
/-- A record. -/
def recL (k v : ByteArray) (dead : Bool) : List UInt8 := Pk.frameL (Pk.strL (bodyL k v dead))
def recV (k v : ByteArray) (dead : Bool) : ByteArray := if cfE k v = 0 then Pk.strL (recL k v dead) else ⟨#[]⟩
theorem textL_le (s : ByteArray) (h : s.size < 18446744073709551616) : (Pk.textL s).length ≤ s.size + 10 := by
  have := Pk.numL_len10 s.size h
  have e : s.data.toList.length = s.size := rfl
  rw [Pk.textL, List.length_append, e]; omega
theorem bodyL_le (k v : ByteArray) (dead : Bool) (hk : k.size ≤ 255) (hv : v.size ≤ 60000) : (bodyL k v dead).length ≤ 60276 := by
  have h1 := textL_le k (by omega)
  have h2 := textL_le v (by omega)
  unfold bodyL
  cases dead <;> simp [Pk.flagL] <;> omega
set_option maxHeartbeats 1600000 in
set_option maxRecDepth 100000 in
theorem record_any (k v : ByteArray) (dead : Bool) (w : World) :
    Calls Tryz.prog 34 #[.string k, .string v, .bool dead] w fun e w' => e = .returned (.tuple #[.string (recV k v dead), .int .i64 (cfE k v)]) ∧ Below w.heap.size w w' := by
  obtain ⟨n, hn⟩ : ∃ n, w.heap.size = n := ⟨_, rfl⟩
  have hf : Hid (Calls Tryz.prog 72 #[.string k, .string v] w fun e w' => e = .returned (.int .i64 (cfE k v)) ∧ w' = w) := fits_rec k v w
  by_cases hE : cfE k v = 0
  · have hz := cfE_zero hE
    rw [recV, if_pos hE]
    rw [hE] at hf ⊢
    have hW0 : Pk.Wr (w.alloc (.cells #[.slice none 0 0] 131)) n [] := hn ▸ Pk.wr_new w
    have hb0 : Below n w (w.alloc (.cells #[.slice none 0 0] 131)) := (Below.refl _ _).alloc (by omega) _
    have hz0 : (w.alloc (.cells #[.slice none 0 0] 131)).heap.size = n + 1 := by simp [hn]
    have l1 := textL_le k (by omega)
    have l2 := textL_le v (by omega)
    have ht : Hid (Calls Tryz.prog 73 #[.pointer (some ⟨n, 0, none⟩), .slice (some ⟨n + 1, 0, none⟩) 1 1] ((w.alloc (.cells #[.slice none 0 0] 131)).alloc (.cells #[.string k] 9)) fun e w' => e = .returned (.pointer (some ⟨n, 0, none⟩)) ∧ Pk.Wr w' n (Pk.textL k) ∧ Pk.WUpd n (w.alloc (.cells #[.slice none 0 0] 131)) w') := by
      have := Pk.wtexts_one n [] k trivial (w.alloc (.cells #[.slice none 0 0] 131)) (n + 1) hz0 hW0 (by simp; omega)
      rw [List.nil_append] at this
      exact this
    have hfl : Hid (∀ (W : World) (N : Nat), W.heap.size = N → Pk.Wr W n (Pk.textL k) → Calls Tryz.prog 74 #[.pointer (some ⟨n, 0, none⟩), .slice (some ⟨N, 0, none⟩) 1 1] (W.alloc (.cells #[.bool dead] 4)) fun e w' => e = .returned (.pointer (some ⟨n, 0, none⟩)) ∧ Pk.Wr w' n (Pk.textL k ++ Pk.flagL dead) ∧ Pk.WUpd n W w') := fun W N hN hW =>
      Pk.wflags_one n (Pk.textL k) dead trivial W N hN hW (by rw [show (Pk.flagL dead).length = 1 from rfl]; omega)
    have htv : Hid (∀ (W : World) (N : Nat), W.heap.size = N → Pk.Wr W n (Pk.textL k ++ Pk.flagL dead) → Calls Tryz.prog 73 #[.pointer (some ⟨n, 0, none⟩), .slice (some ⟨N, 0, none⟩) 1 1] (W.alloc (.cells #[.string v] 9)) fun e w' => e = .returned (.pointer (some ⟨n, 0, none⟩)) ∧ Pk.Wr w' n (Pk.textL k ++ Pk.flagL dead ++ Pk.textL v) ∧ Pk.WUpd n W w') := fun W N hN hW =>
      Pk.wtexts_one n _ v trivial W N hN hW (by rw [List.length_append, show (Pk.flagL dead).length = 1 from rfl]; omega)
    have hbl := bodyL_le k v dead hz.2.1 hz.2.2
    have hby : Hid (∀ W, Pk.Wr W n (bodyL k v dead) → Calls Tryz.prog 76 #[.pointer (some ⟨n, 0, none⟩)] W fun e w' => e = .returned (.string (Pk.strL (bodyL k v dead))) ∧ w' = W) := fun W hW => Pk.bytes_some n _ W hW
    have hfr : Hid (∀ W, Calls Tryz.prog 75 #[.string (Pk.strL (bodyL k v dead))] W fun e w' => e = .returned (.tuple #[.string (Pk.strL (recL k v dead)), .int .i64 0]) ∧ Below W.heap.size W w') := fun W => Pk.frame_ok _ (by rw [Pk.strL_size]; omega) W
    clear hz l1 l2 hbl
    cases dead with
    | true =>
      have hbo : Hid (Pk.textL k ++ Pk.flagL true = bodyL k v true) := by show _ = _; simp [bodyL]
      rw [hbo.out] at hfl
      generalize Pk.strL (bodyL k v true) = bo at *
      generalize bodyL k v true = bl at *
      generalize Pk.strL (recL k v true) = re at *
      generalize Pk.textL k = tk at *
      rw [hn]
      go_enter Tryz.func34, Tryz.ntmps34
      go_wp2_with (first
        | (go_at_call 72; refine hf.out.mono ?_; rintro e w0 ⟨rfl, rfl⟩)
        | (go_at_call 73; refine ht.out.mono ?_; rintro e w1 ⟨rfl, h1, u1⟩; obtain ⟨n1, hn1⟩ : ∃ n1, w1.heap.size = n1 := ⟨_, rfl⟩)
        | (go_at_call 74; refine (hfl.out w1 n1 hn1 h1).mono ?_; rintro e w2 ⟨rfl, h2, u2⟩)
        | (go_at_call 76; refine (hby.out _ h2).mono ?_; rintro e w3 ⟨rfl, rfl⟩)
        | (go_at_call 75; refine (hfr.out _).mono ?_; rintro e w4 ⟨rfl, b4⟩))
      go_ret2
      have z1 := u1.size
      have z2 := u2.size
      exact ⟨rfl, (hb0.trans ((u1.below (Nat.le_refl _)).trans (u2.below (Nat.le_refl _)))).trans (b4.mono (by omega))⟩
    | false =>
      have hbo : Hid (Pk.textL k ++ Pk.flagL false ++ Pk.textL v = bodyL k v false) := by show _ = _; simp [bodyL]
      rw [hbo.out] at htv
      generalize Pk.strL (bodyL k v false) = bo at *
      generalize bodyL k v false = bl at *
      generalize Pk.strL (recL k v false) = re at *
      generalize Pk.textL k ++ Pk.flagL false = tf at *
      generalize Pk.textL k = tk at *
      rw [hn]
      go_enter Tryz.func34, Tryz.ntmps34
      go_wp2_with (first
        | (go_at_call 72; refine hf.out.mono ?_; rintro e w0 ⟨rfl, rfl⟩)
        | (go_at_call 73; refine (htv.out w2 n2 hn2 h2).mono ?_; rintro e w3 ⟨rfl, h3, u3⟩)
        | (go_at_call 73; refine ht.out.mono ?_; rintro e w1 ⟨rfl, h1, u1⟩; obtain ⟨n1, hn1⟩ : ∃ n1, w1.heap.size = n1 := ⟨_, rfl⟩)
        | (go_at_call 74; refine (hfl.out w1 n1 hn1 h1).mono ?_; rintro e w2 ⟨rfl, h2, u2⟩; obtain ⟨n2, hn2⟩ : ∃ n2, w2.heap.size = n2 := ⟨_, rfl⟩)
        | (go_at_call 76; refine (hby.out _ h3).mono ?_; rintro e w4 ⟨rfl, rfl⟩)
        | (go_at_call 75; refine (hfr.out _).mono ?_; rintro e w5 ⟨rfl, b5⟩))
      go_ret2
      have z1 := u1.size
      have z2 := u2.size
      have z3 := u3.size
      exact ⟨rfl, (hb0.trans (((u1.below (Nat.le_refl _)).trans (u2.below (Nat.le_refl _))).trans (u3.below (Nat.le_refl _)))).trans (b5.mono (by omega))⟩
  · rw [recV, if_neg hE]
    generalize cfE k v = E at *
    go_enter Tryz.func34, Tryz.ntmps34
    go_wp2_with (go_at_call 72; refine hf.out.mono ?_; rintro e w0 ⟨rfl, rfl⟩)
    go_ret2
    exact ⟨rfl, Below.refl _ _⟩
end Go.Proofs.YtfmmholkeadejaaGreatDoor

/- The first record of bytes. -/
namespace Go.Proofs.YtfmmholkeadejaaGreatDoor
open Go.RowKit

theorem bytes_ext {a b : ByteArray} (h : a.data.toList = b.data.toList) : a = b := ByteArray.ext (Array.ext' h)
theorem unframe_back (u b : ByteArray) (hb : b.size ≤ 65536) (r : List UInt8) (hu : u.data.toList = Pk.frameL b ++ r) :
    Pk.uE u = 0 ∧ Pk.uB u = b ∧ (Pk.uR u).data.toList = r := by
  have e0 : b.data.toList.length = b.size := rfl
  have e4 : (Pk.four (Pk.crc b.data.toList)).length = 4 := rfl
  have hu' : u.data.toList = Pk.numL b.size ++ (b.data.toList ++ (Pk.four (Pk.crc b.data.toList) ++ r)) := by
    rw [hu, Pk.frameL, Pk.textL]; simp [List.append_assoc]
  obtain ⟨h1, h2, h3⟩ := Pk.behind u b.size (by omega) _ hu'
  have hz : (Pk.nR u).size = b.size + (4 + r.length) := by
    show (Pk.nR u).data.toList.length = _
    rw [h3, List.length_append, List.length_append, e0, e4]
  have hB : Pk.uB u = b := by
    refine bytes_ext ?_
    rw [Pk.uB, h2, Pk.ext_head, h3, ← e0, List.take_left]
  have hT : ((Pk.nR u).extract (Pk.nV u) (Pk.nR u).size).data.toList = Pk.four (Pk.crc b.data.toList) ++ r := by
    rw [h2, Pk.ext_tail, h3, ← e0, List.drop_left]
  have hC : Pk.uC u = Pk.strL (Pk.four (Pk.crc b.data.toList)) := by
    refine bytes_ext ?_
    rw [Pk.uC, Pk.ext_head, hT, Pk.strL_list, ← e4, List.take_left]
  refine ⟨?_, hB, ?_⟩
  · rw [Pk.uE, if_pos h1, h2, if_neg (by omega), if_neg (by omega), hC, hB, if_pos (by simp)]
  · rw [Pk.uR, Pk.ext_tail, hT, ← e4, List.drop_left]
theorem rec_size (k v : ByteArray) (dead : Bool) (h : cfE k v = 0) : (Pk.strL (bodyL k v dead)).size ≤ 65536 := by
  have := cfE_zero h
  have := bodyL_le k v dead (by omega) (by omega)
  rw [Pk.strL_size]; omega
theorem rec_back (u k v : ByteArray) (dead : Bool) (h : cfE k v = 0) (r : List UInt8) (hu : u.data.toList = recL k v dead ++ r) :
    Pk.uE u = 0 ∧ Pk.uB u = Pk.strL (bodyL k v dead) ∧ (u.size : Int) - ((Pk.uR u).size : Int) = ((recL k v dead).length : Int) := by
  obtain ⟨h1, h2, h3⟩ := unframe_back u _ (rec_size k v dead h) r hu
  refine ⟨h1, h2, ?_⟩
  have e1 : u.size = u.data.toList.length := rfl
  have e2 : (Pk.uR u).size = (Pk.uR u).data.toList.length := rfl
  rw [e1, e2, h3, hu, List.length_append]
  omega
theorem cfE_dead {k v : ByteArray} (h : cfE k v = 0) : cfE k ⟨#[]⟩ = 0 := by
  have := cfE_zero h
  unfold cfE
  rw [if_neg (by omega), if_neg (by show ¬ (255 < k.size ∨ 60000 < 0); omega)]

set_option maxHeartbeats 1600000 in
set_option maxRecDepth 100000 in
theorem first_err (s : ByteArray) (hs : s.size < 9223372036854775808) (hE : Pk.uE s ≠ 0) (w : World) :
    Calls Tryz.prog 226 #[.string s] w fun e w' => e = .returned (.tuple #[.agg #[.string ⟨#[]⟩, .string ⟨#[]⟩, .bool false], .int .i64 0, .int .i64 (Pk.uE s)]) ∧ Below w.heap.size w w' := by
  obtain ⟨n, hn⟩ : ∃ n, w.heap.size = n := ⟨_, rfl⟩
  have hu : Hid (∀ W, Calls Tryz.prog 177 #[.string s] W (Pk.UnP (Pk.uE s) (Pk.uB s) ((s.size : Int) - ((Pk.uR s).size : Int)) W)) := fun W => Pk.unframe_any s hs W
  generalize Pk.uE s = E at *
  generalize Pk.uB s = B at *
  generalize (s.size : Int) - ((Pk.uR s).size : Int) = K at *
  have hb0 : Below n w (w.alloc (.cells #[.string ⟨#[]⟩, .string ⟨#[]⟩, .bool false] 52)) := (Below.refl _ _).alloc (by omega) _
  rw [hn]
  have hc : Hid (Holds (w.alloc (.cells #[.string ⟨#[]⟩, .string ⟨#[]⟩, .bool false] 52)) n [.string ⟨#[]⟩, .string ⟨#[]⟩, .bool false] 52) := hn ▸ holds_new w [.string ⟨#[]⟩, .string ⟨#[]⟩, .bool false] 52
  go_enter Tryz.func226, Tryz.ntmps226
  go_wp2_with (go_at_call 177; refine (hu.out _).mono ?_; rintro e w1 ⟨b1, n1, rfl, d1, -⟩; have c1 := hc.out.below d1 (by simp [hn]); have f0 := c1.frozen 0; have f1 := c1.frozen 1; have f2 := c1.frozen 2; have a0 := c1.at 0 _ rfl; have a1 := c1.at 1 _ rfl; have a2 := c1.at 2 _ rfl)
  have c2 := ((c1.set 0 (.string ⟨#[]⟩)).set 1 (.string ⟨#[]⟩)).set 2 (.bool false)
  have v0 := c2.at 0 _ rfl
  have v1 := c2.at 1 _ rfl
  have v2 := c2.at 2 _ rfl
  have u1 := (((Upd.ofBelow (b := n) d1).setCell 0 (.string ⟨#[]⟩)).setCell 1 (.string ⟨#[]⟩)).setCell 2 (.bool false)
  exact bodyPost_ret (v := .tuple #[.agg #[.string ⟨#[]⟩, .string ⟨#[]⟩, .bool false], .int .i64 0, .int .i64 E]) (by simp [results, Tryz.results226, go_sem, v0, v1, v2]) rfl ⟨rfl, hb0.trans (u1.below (Nat.le_refl _) (by simp [hn]))⟩

theorem below_set {n : Nat} {x y : World} (h : Below n x y) (g i : Nat) (v : Value) (hg : n ≤ g) : Below n x (y.setCell ⟨g, i, none⟩ v) :=
  ⟨h.os, h.tape, h.output, by simpa using h.size, fun k hk => (heap_setCell_other y ⟨g, i, none⟩ k v (by show k ≠ g; omega)).trans (h.block k hk)⟩
/-- Readings of a record's body. -/
theorem body_text (k v : ByteArray) (dead : Bool) (hk : k.size ≤ 255) : Pk.textE (Pk.strL (bodyL k v dead)) = 0 ∧ Pk.txV (Pk.strL (bodyL k v dead)) = k ∧ (Pk.textR (Pk.strL (bodyL k v dead))).data.toList = Pk.flagL dead ++ (if dead = true then [] else Pk.textL v) :=
  Pk.back_text _ k (by omega) _ (by rw [Pk.strL_list, bodyL, List.append_assoc])
set_option maxHeartbeats 3200000 in
set_option maxRecDepth 100000 in
theorem first_dead (k v s : ByteArray) (h : cfE k v = 0) (r : List UInt8) (hu : s.data.toList = recL k v true ++ r) (hs : s.size < 9223372036854775808) (w : World) :
    Calls Tryz.prog 226 #[.string s] w fun e w' => e = .returned (.tuple #[.agg #[.string k, .string ⟨#[]⟩, .bool true], .int .i64 ((recL k v true).length : Int), .int .i64 0]) ∧ Below w.heap.size w w' := by
  obtain ⟨n, hn⟩ : ∃ n, w.heap.size = n := ⟨_, rfl⟩
  obtain ⟨e1, e2, e3⟩ := rec_back s k v true h r hu
  obtain ⟨t1, t2, t3⟩ := body_text k v true (cfE_zero h).2.1
  obtain ⟨g1, g2, g3⟩ := Pk.back_flag _ true [] t3
  have hz : (Pk.fR (Pk.textR (Pk.strL (bodyL k v true)))).size = 0 := by show (Pk.fR (Pk.textR (Pk.strL (bodyL k v true)))).data.toList.length = 0; rw [g3]; rfl
  have hbz := rec_size k v true h
  have hun : Hid (∀ W, Calls Tryz.prog 177 #[.string s] W fun x w' => x = .returned (.tuple #[.string (Pk.strL (bodyL k v true)), .int .i64 ((recL k v true).length : Int), .int .i64 0]) ∧ Below W.heap.size W w') := fun W => by
    refine (Pk.unframe_any s hs W).mono ?_
    rintro e w1 ⟨b, q, he, hb, hq⟩
    obtain ⟨q1, q2⟩ := hq e1
    rw [q1, q2, e1, e2, e3] at he
    exact ⟨he, hb⟩
  have hte : Hid (∀ W m, Pk.Rd W m (Pk.strL (bodyL k v true)) 0 → Calls Tryz.prog 236 #[.pointer (some ⟨m, 0, none⟩)] W fun x w' => x = .returned (.string k) ∧ Pk.Rd w' m (Pk.textR (Pk.strL (bodyL k v true))) 0 ∧ Upd m W w') := fun W m hW => by
    refine (Pk.text_ok m _ (by omega) W hW).mono ?_
    rintro e w1 ⟨he, hr, hx⟩
    rw [t2] at he
    rw [t1, Pk.restR, if_pos rfl] at hr
    exact ⟨he, hr, hx⟩
  have hfl : Hid (∀ W m, Pk.Rd W m (Pk.textR (Pk.strL (bodyL k v true))) 0 → Calls Tryz.prog 237 #[.pointer (some ⟨m, 0, none⟩)] W fun x w' => x = .returned (.bool true) ∧ Pk.Rd w' m (Pk.fR (Pk.textR (Pk.strL (bodyL k v true)))) 0 ∧ Upd m W w') := fun W m hW => by
    refine (Pk.flag_ok m _ W hW).mono ?_
    rintro e w1 ⟨he, hr, hx⟩
    rw [g2] at he
    rw [g1, Pk.restR, if_pos rfl] at hr
    exact ⟨he, hr, hx⟩
  have hdo : Hid (∀ W m, Pk.Rd W m (Pk.fR (Pk.textR (Pk.strL (bodyL k v true)))) 0 → Calls Tryz.prog 180 #[.pointer (some ⟨m, 0, none⟩)] W fun x w' => x = .returned (.int .i64 0) ∧ w' = W) := fun W m hW => by
    have := Pk.done_some m _ 0 W hW
    rw [Pk.doneV, if_pos rfl, if_pos hz] at this
    exact this
  have hfi : Hid (∀ W, Calls Tryz.prog 72 #[.string k, .string ⟨#[]⟩] W fun x w' => x = .returned (.int .i64 0) ∧ w' = W) := fun W => by
    have := fits_rec k ⟨#[]⟩ W
    rw [cfE_dead h] at this
    exact this
  have hre : Hid (∀ W, Calls Tryz.prog 178 #[.string (Pk.strL (bodyL k v true))] W fun x w' => x = .returned (.pointer (some ⟨W.heap.size, 0, none⟩)) ∧ Pk.Rd w' W.heap.size (Pk.strL (bodyL k v true)) 0 ∧ Below W.heap.size W w') := fun W => Pk.read_any _ W
  clear hz hbz t1 t2 t3 g1 g2 g3 e1 e2 e3 hu
  generalize Pk.fR (Pk.textR (Pk.strL (bodyL k v true))) = R2 at *
  generalize Pk.textR (Pk.strL (bodyL k v true)) = R1 at *
  generalize Pk.strL (bodyL k v true) = Bd at *
  generalize ((recL k v true).length : Int) = L at *
  have hb0 : Below n w (w.alloc (.cells #[.string ⟨#[]⟩, .string ⟨#[]⟩, .bool false] 52)) := (Below.refl _ _).alloc (by omega) _
  rw [hn]
  have hc : Hid (Holds (w.alloc (.cells #[.string ⟨#[]⟩, .string ⟨#[]⟩, .bool false] 52)) n [.string ⟨#[]⟩, .string ⟨#[]⟩, .bool false] 52) := hn ▸ holds_new w [.string ⟨#[]⟩, .string ⟨#[]⟩, .bool false] 52
  have hnz : (w.alloc (.cells #[.string ⟨#[]⟩, .string ⟨#[]⟩, .bool false] 52)).heap.size = n + 1 := by simp [hn]
  go_enter Tryz.func226, Tryz.ntmps226
  go_wp2_with (first
    | (go_at_call 177; refine (hun.out _).mono ?_; rintro e w1 ⟨rfl, d1⟩; have c1 := hc.out.below d1 (by simp [hn]); obtain ⟨m, hm⟩ : ∃ m, w1.heap.size = m := ⟨_, rfl⟩; have hnm : n < m := (by have := d1.size; omega))
    | (go_at_call 178; refine (hre.out w1).mono ?_; rw [hm]; rintro e w2 ⟨rfl, r2, d2⟩; have c2 := c1.below d2 (by omega))
    | (go_at_call 236; refine (hte.out w2 m r2).mono ?_; rintro e w3 ⟨rfl, r3, u3⟩; have c3 := c2.upd u3 (by omega); obtain ⟨q, hq⟩ : ∃ q, w3.heap.size = q := ⟨_, rfl⟩)
    | (go_at_call 237; refine (hfl.out _ m (r3.alloc _)).mono ?_; rintro e w4 ⟨rfl, r4, u4⟩; have hmq : m < q := (hq ▸ r3.lt); have Q4 := (hq ▸ holds_new w3 [.string k, .string ⟨#[]⟩, .bool false] 52 : Holds (w3.alloc (.cells #[.string k, .string ⟨#[]⟩, .bool false] 52)) q [.string k, .string ⟨#[]⟩, .bool false] 52).upd u4 (by omega); have C4 := (c3.alloc (.cells #[.string k, .string ⟨#[]⟩, .bool false] 52)).upd u4 (by omega); have a2 := Q4.at 2 _ rfl; have f2 := Q4.frozen 2; have Q5 := Q4.set 2 (.bool true); have C5 := C4.setOther q 2 (.bool true) (by omega); have r5 := r4.setOther q 2 (.bool true) (by omega); have b0 := Q5.at 0 _ rfl; have b1 := Q5.at 1 _ rfl; have b2 := Q5.at 2 _ rfl; have x0 := C5.at 0 _ rfl; have x1 := C5.at 1 _ rfl; have x2 := C5.at 2 _ rfl; have y0 := C5.frozen 0; have y1 := C5.frozen 1; have y2 := C5.frozen 2)
    | (go_at_call 180; refine (hdo.out _ m r5).mono ?_; rintro e w6 ⟨rfl, rfl⟩)
    | (go_at_call 72; refine (hfi.out _).mono ?_; rintro e w7 ⟨rfl, rfl⟩))
  have C6 := ((C5.set 0 (.string k)).set 1 (.string ⟨#[]⟩)).set 2 (.bool true)
  have v0 := C6.at 0 _ rfl
  have v1 := C6.at 1 _ rfl
  have v2 := C6.at 2 _ rfl
  have z2 := d2.size
  have z3 := u3.size
  have z4 := u4.size
  have zz : (w3.alloc (.cells #[.string k, .string ⟨#[]⟩, .bool false] 52)).heap.size = q + 1 := by simp [hq]
  have B4 : Below n w w4 := ((((hb0.trans (d1.mono (by omega))).trans (d2.mono (by omega))).trans (u3.below (by omega) (by omega))).alloc (by omega) _).trans (u4.below (by omega) (by omega))
  have B6 := below_set (below_set (below_set (below_set B4 q 2 (.bool true) (by omega)) n 0 (.string k) (Nat.le_refl _)) n 1 (.string ⟨#[]⟩) (Nat.le_refl _)) n 2 (.bool true) (Nat.le_refl _)
  exact bodyPost_ret (v := .tuple #[.agg #[.string k, .string ⟨#[]⟩, .bool true], .int .i64 L, .int .i64 0]) (by simp [results, Tryz.results226, go_sem, v0, v1, v2]) rfl ⟨rfl, B6⟩
set_option maxHeartbeats 3200000 in
set_option maxRecDepth 100000 in
theorem first_live (k v s : ByteArray) (h : cfE k v = 0) (r : List UInt8) (hu : s.data.toList = recL k v false ++ r) (hs : s.size < 9223372036854775808) (w : World) :
    Calls Tryz.prog 226 #[.string s] w fun e w' => e = .returned (.tuple #[.agg #[.string k, .string v, .bool false], .int .i64 ((recL k v false).length : Int), .int .i64 0]) ∧ Below w.heap.size w w' := by
  obtain ⟨n, hn⟩ : ∃ n, w.heap.size = n := ⟨_, rfl⟩
  obtain ⟨e1, e2, e3⟩ := rec_back s k v false h r hu
  obtain ⟨t1, t2, t3⟩ := body_text k v false (cfE_zero h).2.1
  obtain ⟨g1, g2, g3⟩ := Pk.back_flag _ false (Pk.textL v) t3
  obtain ⟨i1, i2, i3⟩ := Pk.back_text _ v (by have := (cfE_zero h).2.2; omega) [] (g3.trans (List.append_nil _).symm)
  have hz : (Pk.textR (Pk.fR (Pk.textR (Pk.strL (bodyL k v false))))).size = 0 := by show (Pk.textR (Pk.fR (Pk.textR (Pk.strL (bodyL k v false))))).data.toList.length = 0; rw [i3]; rfl
  have hz2 : (Pk.fR (Pk.textR (Pk.strL (bodyL k v false)))).size = (Pk.textL v).length := by show (Pk.fR (Pk.textR (Pk.strL (bodyL k v false)))).data.toList.length = _; rw [g3]
  have hz3 := textL_le v (by have := (cfE_zero h).2.2; omega)
  have hz4 := (cfE_zero h).2.2
  have hbz := rec_size k v false h
  have hun : Hid (∀ W, Calls Tryz.prog 177 #[.string s] W fun x w' => x = .returned (.tuple #[.string (Pk.strL (bodyL k v false)), .int .i64 ((recL k v false).length : Int), .int .i64 0]) ∧ Below W.heap.size W w') := fun W => by
    refine (Pk.unframe_any s hs W).mono ?_
    rintro e w1 ⟨b, q, he, hb, hq⟩
    obtain ⟨q1, q2⟩ := hq e1
    rw [q1, q2, e1, e2, e3] at he
    exact ⟨he, hb⟩
  have hte : Hid (∀ W m, Pk.Rd W m (Pk.strL (bodyL k v false)) 0 → Calls Tryz.prog 236 #[.pointer (some ⟨m, 0, none⟩)] W fun x w' => x = .returned (.string k) ∧ Pk.Rd w' m (Pk.textR (Pk.strL (bodyL k v false))) 0 ∧ Upd m W w') := fun W m hW => by
    refine (Pk.text_ok m _ (by omega) W hW).mono ?_
    rintro e w1 ⟨he, hr, hx⟩
    rw [t2] at he
    rw [t1, Pk.restR, if_pos rfl] at hr
    exact ⟨he, hr, hx⟩
  have hfl : Hid (∀ W m, Pk.Rd W m (Pk.textR (Pk.strL (bodyL k v false))) 0 → Calls Tryz.prog 237 #[.pointer (some ⟨m, 0, none⟩)] W fun x w' => x = .returned (.bool false) ∧ Pk.Rd w' m (Pk.fR (Pk.textR (Pk.strL (bodyL k v false)))) 0 ∧ Upd m W w') := fun W m hW => by
    refine (Pk.flag_ok m _ W hW).mono ?_
    rintro e w1 ⟨he, hr, hx⟩
    rw [g2] at he
    rw [g1, Pk.restR, if_pos rfl] at hr
    exact ⟨he, hr, hx⟩
  have htv : Hid (∀ W m, Pk.Rd W m (Pk.fR (Pk.textR (Pk.strL (bodyL k v false)))) 0 → Calls Tryz.prog 236 #[.pointer (some ⟨m, 0, none⟩)] W fun x w' => x = .returned (.string v) ∧ Pk.Rd w' m (Pk.textR (Pk.fR (Pk.textR (Pk.strL (bodyL k v false))))) 0 ∧ Upd m W w') := fun W m hW => by
    refine (Pk.text_ok m _ (by omega) W hW).mono ?_
    rintro e w1 ⟨he, hr, hx⟩
    rw [i2] at he
    rw [i1, Pk.restR, if_pos rfl] at hr
    exact ⟨he, hr, hx⟩
  have hdo : Hid (∀ W m, Pk.Rd W m (Pk.textR (Pk.fR (Pk.textR (Pk.strL (bodyL k v false))))) 0 → Calls Tryz.prog 180 #[.pointer (some ⟨m, 0, none⟩)] W fun x w' => x = .returned (.int .i64 0) ∧ w' = W) := fun W m hW => by
    have := Pk.done_some m _ 0 W hW
    rw [Pk.doneV, if_pos rfl, if_pos hz] at this
    exact this
  have hfi : Hid (∀ W, Calls Tryz.prog 72 #[.string k, .string v] W fun x w' => x = .returned (.int .i64 0) ∧ w' = W) := fun W => by
    have := fits_rec k v W
    rw [h] at this
    exact this
  have hre : Hid (∀ W, Calls Tryz.prog 178 #[.string (Pk.strL (bodyL k v false))] W fun x w' => x = .returned (.pointer (some ⟨W.heap.size, 0, none⟩)) ∧ Pk.Rd w' W.heap.size (Pk.strL (bodyL k v false)) 0 ∧ Below W.heap.size W w') := fun W => Pk.read_any _ W
  clear hz hz2 hz3 hz4 hbz t1 t2 t3 g1 g2 g3 i1 i2 i3 e1 e2 e3 hu
  generalize Pk.textR (Pk.fR (Pk.textR (Pk.strL (bodyL k v false)))) = R3 at *
  generalize Pk.fR (Pk.textR (Pk.strL (bodyL k v false))) = R2 at *
  generalize Pk.textR (Pk.strL (bodyL k v false)) = R1 at *
  generalize Pk.strL (bodyL k v false) = Bd at *
  generalize ((recL k v false).length : Int) = L at *
  have hb0 : Below n w (w.alloc (.cells #[.string ⟨#[]⟩, .string ⟨#[]⟩, .bool false] 52)) := (Below.refl _ _).alloc (by omega) _
  rw [hn]
  have hc : Hid (Holds (w.alloc (.cells #[.string ⟨#[]⟩, .string ⟨#[]⟩, .bool false] 52)) n [.string ⟨#[]⟩, .string ⟨#[]⟩, .bool false] 52) := hn ▸ holds_new w [.string ⟨#[]⟩, .string ⟨#[]⟩, .bool false] 52
  have hnz : (w.alloc (.cells #[.string ⟨#[]⟩, .string ⟨#[]⟩, .bool false] 52)).heap.size = n + 1 := by simp [hn]
  go_enter Tryz.func226, Tryz.ntmps226
  go_wp2_with (first
    | (go_at_call 177; refine (hun.out _).mono ?_; rintro e w1 ⟨rfl, d1⟩; have c1 := hc.out.below d1 (by simp [hn]); obtain ⟨m, hm⟩ : ∃ m, w1.heap.size = m := ⟨_, rfl⟩; have hnm : n < m := (by have := d1.size; omega))
    | (go_at_call 178; refine (hre.out w1).mono ?_; rw [hm]; rintro e w2 ⟨rfl, r2, d2⟩; have c2 := c1.below d2 (by omega))
    | (go_at_call 236; refine (htv.out _ m r5).mono ?_; rintro e w7 ⟨rfl, r7, u7⟩; have Q7 := Q5.upd u7 (by omega); have C7 := C5.upd u7 (by omega); have p1 := Q7.at 1 _ rfl; have p2 := Q7.frozen 1; have Q8 := Q7.set 1 (.string v); have C8 := C7.setOther q 1 (.string v) (by omega); have r8 := r7.setOther q 1 (.string v) (by omega); have b0 := Q8.at 0 _ rfl; have b1 := Q8.at 1 _ rfl; have b2 := Q8.at 2 _ rfl; have x0 := C8.at 0 _ rfl; have x1 := C8.at 1 _ rfl; have x2 := C8.at 2 _ rfl; have y0 := C8.frozen 0; have y1 := C8.frozen 1; have y2 := C8.frozen 2)
    | (go_at_call 236; refine (hte.out w2 m r2).mono ?_; rintro e w3 ⟨rfl, r3, u3⟩; have c3 := c2.upd u3 (by omega); obtain ⟨q, hq⟩ : ∃ q, w3.heap.size = q := ⟨_, rfl⟩)
    | (go_at_call 237; refine (hfl.out _ m (r3.alloc _)).mono ?_; rintro e w4 ⟨rfl, r4, u4⟩; have hmq : m < q := (hq ▸ r3.lt); have Q4 := (hq ▸ holds_new w3 [.string k, .string ⟨#[]⟩, .bool false] 52 : Holds (w3.alloc (.cells #[.string k, .string ⟨#[]⟩, .bool false] 52)) q [.string k, .string ⟨#[]⟩, .bool false] 52).upd u4 (by omega); have C4 := (c3.alloc (.cells #[.string k, .string ⟨#[]⟩, .bool false] 52)).upd u4 (by omega); have a2 := Q4.at 2 _ rfl; have f2 := Q4.frozen 2; have Q5 := Q4.set 2 (.bool false); have C5 := C4.setOther q 2 (.bool false) (by omega); have r5 := r4.setOther q 2 (.bool false) (by omega); have b2 := Q5.at 2 _ rfl)
    | (go_at_call 180; refine (hdo.out _ m r8).mono ?_; rintro e w6 ⟨rfl, rfl⟩)
    | (go_at_call 72; refine (hfi.out _).mono ?_; rintro e w7 ⟨rfl, rfl⟩))
  have C6 := ((C8.set 0 (.string k)).set 1 (.string v)).set 2 (.bool false)
  have v0 := C6.at 0 _ rfl
  have v1 := C6.at 1 _ rfl
  have v2 := C6.at 2 _ rfl
  have z2 := d2.size
  have z3 := u3.size
  have z4 := u4.size
  have zz : (w3.alloc (.cells #[.string k, .string ⟨#[]⟩, .bool false] 52)).heap.size = q + 1 := by simp [hq]
  have B4 : Below n w w4 := ((((hb0.trans (d1.mono (by omega))).trans (d2.mono (by omega))).trans (u3.below (by omega) (by omega))).alloc (by omega) _).trans (u4.below (by omega) (by omega))
  have B5 := below_set B4 q 2 (.bool false) (by omega)
  have B7 : Below n w w7 := B5.trans (u7.below (by omega) (by simp; omega))
  have B6 := below_set (below_set (below_set (below_set B7 q 1 (.string v) (by omega)) n 0 (.string k) (Nat.le_refl _)) n 1 (.string v) (Nat.le_refl _)) n 2 (.bool false) (Nat.le_refl _)
  exact bodyPost_ret (v := .tuple #[.agg #[.string k, .string v, .bool false], .int .i64 L, .int .i64 0]) (by simp [results, Tryz.results226, go_sem, v0, v1, v2]) rfl ⟨rfl, B6⟩
end Go.Proofs.YtfmmholkeadejaaGreatDoor

/- A cask's name, and the name of a segment's file. -/
namespace Go.Proofs.YtfmmholkeadejaaGreatDoor
open Go.RowKit

/-- A sign that no name has. -/
def notIn (r : Nat) : Bool := !((decide (97 ≤ r) && decide (r ≤ 122)) || (decide (48 ≤ r) && decide (r ≤ 57)) || decide (r = 45))
theorem notIn_false (r : Nat) : notIn r = false ↔ (97 ≤ r ∧ r ≤ 122) ∨ (48 ≤ r ∧ r ≤ 57) ∨ r = 45 := by
  simp [notIn]; omega
theorem notIn_any (r : Nat) (w : World) : Calls Tryz.prog 127 #[.int .i32 (r : Int)] w fun e w' => e = .returned (.bool (notIn r)) ∧ w' = w := by
  cases hX : notIn r with
  | false =>
    have hY := (notIn_false r).1 hX
    clear hX
    by_cases h1 : (97 : Int) ≤ (r : Int) <;> by_cases h2 : (r : Int) ≤ 122 <;> by_cases h3 : (48 : Int) ≤ (r : Int) <;> by_cases h4 : (r : Int) ≤ 57 <;> by_cases h5 : (r : Int) = 45 <;> first
      | (exfalso; omega)
      | (clear hY
         go_enter Tryz.func127, Tryz.ntmps127
         go_wp2
         go_ret
         exact ⟨rfl, rfl⟩)
  | true =>
    have hY : ¬ _ := fun h => Bool.false_ne_true (((notIn_false r).2 h).symm.trans hX)
    clear hX
    by_cases h1 : (97 : Int) ≤ (r : Int) <;> by_cases h2 : (r : Int) ≤ 122 <;> by_cases h3 : (48 : Int) ≤ (r : Int) <;> by_cases h4 : (r : Int) ≤ 57 <;> by_cases h5 : (r : Int) = 45 <;> first
      | (exfalso; omega)
      | (clear hY
         have e5 : ((r : Int) == 45) = false := beq_eq_false_iff_ne.2 h5
         go_enter Tryz.func127, Tryz.ntmps127
         go_wp2
         go_ret
         exact ⟨rfl, rfl⟩)
theorem notIn_gives (r : Nat) (W : World) : FnGives Tryz.prog 127 #[] #[encR r] (.bool (notIn r)) W := by
  show Calls Tryz.prog 127 #[.int .i32 (r : Int)] W _
  exact (notIn_any r W).mono fun e w' ⟨h1, h2⟩ => ⟨h1, 0, h2⟩
/-- A cask may be called so. -/
def capOk (s : ByteArray) : Bool := decide (0 < s.size) && decide (s.size ≤ 20) && decide (Lib.idxFunc notIn true s < 0) && s.data.toList.all inName
theorem capOk_le {s : ByteArray} (h : capOk s = true) : 0 < s.size ∧ s.size ≤ 20 ∧ Lib.idxFunc notIn true s < 0 := by
  simp only [capOk, Bool.and_eq_true, decide_eq_true_eq] at h
  exact ⟨h.1.1.1, h.1.1.2, h.1.2⟩
theorem capOk_in {s : ByteArray} (h : capOk s = true) : s.data.toList.all inName = true := by
  simp only [capOk, Bool.and_eq_true] at h
  exact h.2
theorem contains_any (s : ByteArray) (w : World) : Calls Tryz.prog 126 #[.string s, .func (.func 127) #[] #[]] w fun e w' => e = .returned (.bool (decide (0 ≤ Lib.idxFunc notIn true s))) ∧ Below w.heap.size w w' :=
  Tryz.strings_ContainsFunc 127 #[] (enters_of Tryz.func127 (by kernel_rfl) rfl) notIn s w (fun W x _ => notIn_gives x W)
theorem cname_ok (s : ByteArray) (h : capOk s = true) (w : World) : Calls Tryz.prog 82 #[.string s] w fun e w' => e = .returned (.bool true) ∧ Below w.heap.size w w' := by
  obtain ⟨h1, h2, h3⟩ := capOk_le h
  have hc : Hid (∀ W, Calls Tryz.prog 126 #[.string s, .func (.func 127) #[] #[]] W fun e w' => e = .returned (.bool false) ∧ Below W.heap.size W w') := fun W => by
    have := contains_any s W
    rw [decide_eq_false (by omega)] at this
    exact this
  have he := emp_false (s := s) (by omega)
  have h4 : (s.size : Int) ≤ 20 := by omega
  clear h h1 h2 h3
  go_enter Tryz.func82, Tryz.ntmps82
  go_wp2_with (go_at_call 126; refine (hc.out _).mono ?_; rintro e w1 ⟨rfl, b1⟩)
  go_ret
  exact ⟨rfl, b1⟩
/-- The table of powers of ten, whatever is done from block B on. -/
def Tab (B : Nat) (w : World) : Prop := Lib.TabBelow Tryz.prog B w "internal/strconv.uint64pow10" .u64 Lib.pow10Tab
theorem Tab.on {B : Nat} {w w' : World} (h : Tab B w) (hb : Below B w w') : Tab B w' := Lib.TabBelow.on h hb
/-- Six digits. -/
def dig (n : Nat) : UInt8 := UInt8.ofNat (48 + n % 10)
def six (n : Nat) : List UInt8 := [dig (n / 100000), dig (n / 10000), dig (n / 1000), dig (n / 100), dig (n / 10), dig n]
theorem dec_big (u : Nat) (h : ¬ u < 10) : Lib.decDigits u = Lib.decDigits (u / 10) ++ [dig u] := by
  rw [Lib.decDigits, dif_neg h]; rfl
theorem extract_drop (s : ByteArray) (n : Nat) : (s.extract n s.size).data.toList = s.data.toList.drop n := Pk.ext_tail s n
theorem six_itoa (n : Nat) (h : n ≤ 999999) : Lib.itoa (1000000 + (n : Int)) = 49 :: six n := by
  have e : (1000000 + (n : Int)).toNat = 1000000 + n := by omega
  have d0 : (1000000 + n) / 10 = 100000 + n / 10 := by omega
  have d1 : (100000 + n / 10) / 10 = 10000 + n / 100 := by omega
  have d2 : (10000 + n / 100) / 10 = 1000 + n / 1000 := by omega
  have d3 : (1000 + n / 1000) / 10 = 100 + n / 10000 := by omega
  have d4 : (100 + n / 10000) / 10 = 10 + n / 100000 := by omega
  have d5 : (10 + n / 100000) / 10 = 1 := by omega
  have g0 : dig (1000000 + n) = dig n := by unfold dig; congr 2; omega
  have g1 : dig (100000 + n / 10) = dig (n / 10) := by unfold dig; congr 2; omega
  have g2 : dig (10000 + n / 100) = dig (n / 100) := by unfold dig; congr 2; omega
  have g3 : dig (1000 + n / 1000) = dig (n / 1000) := by unfold dig; congr 2; omega
  have g4 : dig (100 + n / 10000) = dig (n / 10000) := by unfold dig; congr 2; omega
  have g5 : dig (10 + n / 100000) = dig (n / 100000) := by unfold dig; congr 2; omega
  have l1 : Lib.decDigits 1 = [49] := by rw [Lib.decDigits, dif_pos (by omega)]; rfl
  rw [Lib.itoa, if_neg (by omega), e, dec_big _ (by omega), d0, dec_big _ (by omega), d1, dec_big _ (by omega), d2, dec_big _ (by omega), d3, dec_big _ (by omega), d4, dec_big _ (by omega), d5, l1, g0, g1, g2, g3, g4, g5]
  rfl
def fileB (s : ByteArray) (n : Nat) : ByteArray := Pk.strL (s.data.toList ++ (46 :: six n))
theorem fileB_list (s : ByteArray) (n : Nat) : (fileB s n).data.toList = s.data.toList ++ (46 :: six n) := rfl
theorem dig_in (n : Nat) : inName (dig n) = true := by
  have h : n % 10 < 10 := Nat.mod_lt _ (by decide)
  rw [inName_true, dig, UInt8.toNat_ofNat']
  omega
theorem fileB_ok {s : ByteArray} (h : capOk s = true) (n : Nat) : nameOk (fileB s n) = true := by
  have h1 := capOk_le h
  have h2 := capOk_in h
  have hz : (fileB s n).size = s.size + 7 := by
    show (fileB s n).data.toList.length = _
    rw [fileB_list, List.length_append]; rfl
  simp only [nameOk, Bool.and_eq_true, decide_eq_true_eq]
  refine ⟨⟨by omega, by omega⟩, ?_⟩
  rw [fileB_list, List.all_append, h2, List.all_cons]
  simp [six, dig_in]
  decide
theorem fileB_size {s : ByteArray} (h : capOk s = true) (n : Nat) : (fileB s n).size ≤ 32 := nameOk_le (fileB_ok h n)
set_option maxRecDepth 100000 in
theorem file_ok (B : Nat) (s : ByteArray) (h : capOk s = true) (n : Nat) (h1 : 1 ≤ n) (h2 : n ≤ 999999) (w : World) (hB : B ≤ w.heap.size) (hT : Tab B w) :
    Calls Tryz.prog 36 #[.string s, .int .i64 (n : Int)] w fun e w' => e = .returned (.string (fileB s n)) ∧ Below w.heap.size w w' := by
  have hn : Hid (Calls Tryz.prog 82 #[.string s] w fun e w' => e = .returned (.bool true) ∧ Below w.heap.size w w') := cname_ok s h w
  have hi : Hid (∀ W, Below w.heap.size w W → Calls Tryz.prog 83 #[.int .i64 (1000000 + (n : Int))] W fun e w' => e = .returned (.string ⟨(Lib.itoa (1000000 + (n : Int))).toArray⟩) ∧ Below W.heap.size W w') := fun W hW => by
    have ht : Tab B W := hT.on (hW.mono hB)
    refine (Tryz.strconv_Itoa (1000000 + (n : Int)) (by omega) (by omega) W ht.here).mono ?_
    rintro e w1 ⟨he, k, os, rfl⟩
    exact ⟨he, ⟨rfl, rfl, rfl, by simp [Go.Sort.grow], fun i hi => by simp [Go.Sort.grow]; rw [Array.getElem?_append_left hi]⟩⟩
  have hl : (⟨(Lib.itoa (1000000 + (n : Int))).toArray⟩ : ByteArray).size = 7 := by
    show (Lib.itoa (1000000 + (n : Int))).length = 7
    rw [six_itoa n h2]; rfl
  have hf : Hid ((s ++ (⟨#[46]⟩ : ByteArray)) ++ ((⟨(Lib.itoa (1000000 + (n : Int))).toArray⟩ : ByteArray).extract 1 (⟨(Lib.itoa (1000000 + (n : Int))).toArray⟩ : ByteArray).size) = fileB s n) := by
    refine bytes_ext ?_
    rw [ByteArray.data_append, ByteArray.data_append, Array.toList_append, Array.toList_append, extract_drop, fileB, Pk.strL_list]
    show s.data.toList ++ [46] ++ (Lib.itoa (1000000 + (n : Int))).drop 1 = _
    rw [six_itoa n h2]
    simp
  generalize fileB s n = F at *
  generalize (⟨(Lib.itoa (1000000 + (n : Int))).toArray⟩ : ByteArray) = I at *
  have g1 : ¬ (n : Int) < 1 := by omega
  have g2 : ¬ (999999 : Int) < (n : Int) := by omega
  have hl2 : (I.size : Int) = 7 := by omega
  have z1 : ¬ 9223372036854775807 < s.size + 1 + 6 := by have := capOk_le h; omega
  have z2 : ¬ 9223372036854775807 < s.size + 1 := by have := capOk_le h; omega
  rw [hl] at hf
  clear h hT hB
  go_enter Tryz.func36, Tryz.ntmps36
  go_wp2_with (first
    | (go_at_call 82; refine hn.out.mono ?_; rintro e w1 ⟨rfl, b1⟩)
    | (go_at_call 83; refine (hi.out _ b1).mono ?_; rintro e w2 ⟨rfl, b2⟩))
  go_ret
  exact ⟨by rw [← hf.out]; rfl, b1.trans (b2.mono b1.size)⟩
end Go.Proofs.YtfmmholkeadejaaGreatDoor

/- Bytes are parsed: the records with which they begin. -/
namespace Go.Proofs.YtfmmholkeadejaaGreatDoor
open Go.RowKit

/-- A change. -/
structure Ch where
  k : ByteArray
  v : ByteArray
  dead : Bool
def Ch.Ok (c : Ch) : Prop := cfE c.k c.v = 0
/-- What is told as its value. -/
def Ch.val (c : Ch) : ByteArray := if c.dead = true then ⟨#[]⟩ else c.v
def chB (c : Ch) : List UInt8 := recL c.k c.v c.dead
def chV (c : Ch) : List Value := [.string c.k, .string c.val, .bool c.dead]
def rowC (l : List Ch) : List Value := l.flatMap chV
theorem rowC_append (a b : List Ch) : rowC (a ++ b) = rowC a ++ rowC b := List.flatMap_append
theorem rowC_one (c : Ch) : rowC [c] = chV c := by simp [rowC]
theorem chB_pos (c : Ch) : 1 ≤ (chB c).length := by
  unfold chB recL Pk.frameL
  rw [List.length_append, Pk.four_length]; omega
theorem below_grown {B : Nat} {w0 w w' : World} {v : Value} {e : TypeId} {size k : Nat} {xs : List Value} (h : Below B w0 w) (hg : w.grownBy w' v.ownBlock) (hB : B ≤ w.heap.size) (ho : w.ownsRow B e size v k xs) : Below B w0 w' :=
  h.grown hg hB (fun j hj => by
    rcases ho.2 with ⟨rfl, _⟩ | ⟨g, cap, cur, rfl, hb, _⟩
    · cases hj
    · simp [Value.ownBlock] at hj; omega)
theorem full52 : (Tryz.prog.info? 52).map (fun i => (i.zero, i.size, i.bytes)) = some (some (.agg #[.string ⟨#[]⟩, .string ⟨#[]⟩, .bool false]), 3, 40) := by kernel_rfl
theorem inf52 : ∃ i, Tryz.prog.info? 52 = some i ∧ i.zero = some (.agg #[.string ⟨#[]⟩, .string ⟨#[]⟩, .bool false]) ∧ i.size = 3 ∧ i.bytes = 40 := by
  have := full52
  cases h : Tryz.prog.info? 52 with
  | none => simp [h] at this
  | some i =>
    simp [h] at this
    exact ⟨i, rfl, this.1, this.2.1, this.2.2⟩
theorem first_any (c : Ch) (h : c.Ok) (s : ByteArray) (r : List UInt8) (hu : s.data.toList = chB c ++ r) (hs : s.size < 9223372036854775808) (w : World) :
    Calls Tryz.prog 226 #[.string s] w fun e w' => e = .returned (.tuple #[.agg #[.string c.k, .string c.val, .bool c.dead], .int .i64 ((chB c).length : Int), .int .i64 0]) ∧ Below w.heap.size w w' := by
  obtain ⟨k, v, dead⟩ := c
  cases dead with
  | true => exact first_dead k v s h r hu hs w
  | false => exact first_live k v s h r hu hs w
theorem row_below {w w' : World} {base : Nat} {e : TypeId} {size : Nat} {v : Value} {n : Nat} {xs : List Value} (h : w.ownsRow base e size v n xs) (hb : Below w.heap.size w w') : w'.ownsRow base e size v n xs :=
  h.kept (row := none) ⟨hb.os, hb.tape, hb.output, hb.size, fun k hk _ => hb.block k hk⟩ (by cases v.ownBlock <;> simp)
/-- The error of what stands behind the last record. -/
def tlE (tl : List UInt8) : Int := if tl = [] then 0 else Pk.uE (Pk.strL tl)
theorem flat_take (cs : List Ch) (j : Nat) (c : Ch) (h : cs[j]? = some c) : (cs.take (j + 1)).flatMap chB = (cs.take j).flatMap chB ++ chB c := by
  rw [List.take_add_one, h, List.flatMap_append]; simp
theorem flat_split (cs : List Ch) (j : Nat) (c : Ch) (h : cs[j]? = some c) : ∃ r, cs.flatMap chB = (cs.take j).flatMap chB ++ (chB c ++ r) := by
  refine ⟨(cs.drop (j + 1)).flatMap chB, ?_⟩
  rw [← List.append_assoc, ← flat_take cs j c h, ← List.flatMap_append, List.take_append_drop]
theorem flat_len : ∀ cs : List Ch, cs.length ≤ (cs.flatMap chB).length
  | [] => by simp
  | c :: r => by
    have := flat_len r
    have := chB_pos c
    rw [List.flatMap_cons, List.length_append, List.length_cons]; omega

set_option maxHeartbeats 3200000 in
set_option maxRecDepth 100000 in
theorem parse_some (cs : List Ch) (hok : ∀ c ∈ cs, c.Ok) (tl : List UInt8) (htl : tl ≠ [] → Pk.uE (Pk.strL tl) ≠ 0) (s : ByteArray) (hs : s.data.toList = cs.flatMap chB ++ tl) (hz : s.size ≤ 16777216) (w : World) :
    Calls Tryz.prog 200 #[.string s] w fun e w' => ∃ v, e = .returned (.tuple #[v, .int .i64 ((cs.flatMap chB).length : Int), .int .i64 (tlE tl)]) ∧ w'.ownsRow w.heap.size 52 3 v cs.length (rowC cs) ∧ Below w.heap.size w w' := by
  obtain ⟨H, hH⟩ : ∃ H, H = w.heap.size := ⟨_, rfl⟩
  have HH : Hid (H = w.heap.size) := hH
  rw [← hH]
  have hsl : s.size = (cs.flatMap chB).length + tl.length := by
    show s.data.toList.length = _
    rw [hs, List.length_append]
  obtain ⟨T, hT⟩ : ∃ T, T = (cs.flatMap chB).length := ⟨_, rfl⟩
  have hcl := flat_len cs
  rw [← hT] at hsl hcl ⊢
  -- one record
  have one : Hid (∀ (W : World) (j t : Nat) (c : Ch), cs[j]? = some c → t = ((cs.take j).flatMap chB).length → Calls Tryz.prog 226 #[.string (s.extract t s.size)] W fun e w' => e = .returned (.tuple #[.agg #[.string c.k, .string c.val, .bool c.dead], .int .i64 ((chB c).length : Int), .int .i64 0]) ∧ Below W.heap.size W w') := fun W j t c hc ht => by
    obtain ⟨r, hr⟩ := flat_split cs j c hc
    refine first_any c (hok c (List.mem_of_getElem? hc)) _ (r ++ tl) ?_ (by simp; omega) W
    rw [extract_drop, hs, hr, List.append_assoc, ht, List.drop_left, List.append_assoc]
  have last : Hid (∀ (W : World), Pk.uE (Pk.strL tl) ≠ 0 → Calls Tryz.prog 226 #[.string (s.extract T s.size)] W fun e w' => e = .returned (.tuple #[.agg #[.string ⟨#[]⟩, .string ⟨#[]⟩, .bool false], .int .i64 0, .int .i64 (Pk.uE (Pk.strL tl))]) ∧ Below W.heap.size W w') := fun W hne => by
    have he : s.extract T s.size = Pk.strL tl := bytes_ext (by rw [extract_drop, hs, hT, List.drop_left, Pk.strL_list])
    rw [he]
    exact first_err _ (by rw [← he]; simp; omega) hne W
  obtain ⟨i52, f52, hz52, hs52, hb52⟩ := inf52
  have F52 : Hid (Tryz.prog.info? 52 = some i52) := f52
  have FZ : Hid (i52.zero = some (.agg #[.string ⟨#[]⟩, .string ⟨#[]⟩, .bool false])) := hz52
  have FS : Hid (i52.size = 3) := hs52
  have FB : Hid (i52.bytes = 40) := hb52
  have hstep : Hid (∀ (j t : Nat) (c : Ch), cs[j]? = some c → t = ((cs.take j).flatMap chB).length → t + (chB c).length = ((cs.take (j + 1)).flatMap chB).length ∧ rowC (cs.take (j + 1)) = rowC (cs.take j) ++ [.string c.k, .string c.val, .bool c.dead] ∧ t + (chB c).length ≤ T ∧ 1 ≤ (chB c).length) := fun j t c hc ht => by
    refine ⟨by rw [flat_take cs j c hc, List.length_append, ht], by rw [List.take_add_one, hc, rowC_append]; exact congrArg (rowC (cs.take j) ++ ·) (rowC_one c), ?_, chB_pos c⟩
    obtain ⟨r, hr⟩ := flat_split cs j c hc
    rw [hT, hr, ht]
    simp only [List.length_append]
    omega
  have hend : Hid (∀ t : Nat, t = ((cs.take cs.length).flatMap chB).length → t = T) := fun t ht => by rw [ht, List.take_length, hT]
  have hrow : Hid (rowC (cs.take cs.length) = rowC cs) := by show _ = _; rw [List.take_length]
  have hTL : Hid (tl = [] → tlE tl = 0 ∧ T = s.size) := fun h => ⟨by rw [tlE, if_pos h], by rw [h] at hsl; simp at hsl; exact hsl.symm⟩
  have hTN : Hid (tl ≠ [] → Pk.uE (Pk.strL tl) ≠ 0 ∧ tlE tl = Pk.uE (Pk.strL tl) ∧ T < s.size) := fun h => ⟨htl h, by rw [tlE, if_neg h], by have := List.length_pos_iff.2 h; omega⟩
  have hTs : T ≤ s.size := by omega
  obtain ⟨m, hm⟩ : ∃ m, cs.length = m := ⟨_, rfl⟩
  have HM : Hid (cs.length = m) := hm
  rw [hm] at hend hrow hcl ⊢
  clear hm hH hs hsl hok htl f52 hz52 hs52 hb52 hT
  generalize tlE tl = EE at *
  generalize Pk.uE (Pk.strL tl) = E at *
  go_enter Tryz.func200, Tryz.ntmps200
  go_wp2_with fail
  go_loopw [5, 6] (fun v c wr => ∃ j t : Nat, j ≤ m ∧ c = .int .i64 (t : Int) ∧ Hid (t = ((cs.take j).flatMap chB).length) ∧ t ≤ T ∧ j ≤ t ∧ wr.ownsRow H 52 3 v j (rowC (cs.take j)) ∧ H ≤ wr.heap.size ∧ Below H w wr) (fun _ c _ => s.size - (intOf c).toNat)
  case atStart => exact ⟨0, 0, by omega, rfl, by show _ = _; simp, by omega, by omega, World.ownsRow_nil _ _ _ _, (by have := HH.out; omega), Below.refl _ _⟩
  case round =>
    obtain ⟨j, t, hj, rfl, ht, htT, hjt, hown, hsz, hb⟩ := hrel
    by_cases hlt : j < m
    · obtain ⟨c, hc⟩ : ∃ c, cs[j]? = some c := ⟨cs[j]'(by have := HM.out; omega), List.getElem?_eq_getElem _⟩
      obtain ⟨s1, s2, s3, s4⟩ := hstep.out j t c hc ht.out
      have S1 : Hid (t + (chB c).length = ((cs.take (j + 1)).flatMap chB).length) := s1
      have S2 : Hid (rowC (cs.take (j + 1)) = rowC (cs.take j) ++ [.string c.k, .string c.val, .bool c.dead]) := s2
      have k1 : Hid (Calls Tryz.prog 226 #[.string (s.extract t s.size)] wr fun e w' => e = .returned (.tuple #[.agg #[.string c.k, .string c.val, .bool c.dead], .int .i64 ((chB c).length : Int), .int .i64 0]) ∧ Below wr.heap.size wr w') := one.out wr j t c hc ht.out
      have g1 : (t : Int) < (s.size : Int) := by omega
      clear s1 s2 hc
      generalize (chB c).length = L at *
      generalize rowC (cs.take j) = xs at *
      generalize c.val = cv at *
      generalize c.k = ck at *
      generalize c.dead = cd at *
      go_wp2_with (first
        | (go_at_call 226; refine k1.out.mono ?_; rintro e w2 ⟨rfl, b2⟩; have o2 := row_below hown b2; have z2 := b2.size; obtain ⟨n2, hn2⟩ : ∃ n2, w2.heap.size = n2 := ⟨_, rfl⟩; have hnews : Hid (∀ (i : Nat) (u : Value), [Value.string ck, .string cv, .bool cd][i]? = some u → ((w2.alloc (.cells #[.string ck, .string cv, .bool cd] 52)).alloc (.cells #[.string ck, .string cv, .bool cd] 52)).cell? ((⟨n2 + 1, 0, none⟩ : Addr).add i) = some u) := (by have q := World.news_of_block (heap_alloc_new (w2.alloc (.cells #[.string ck, .string cv, .bool cd] 52)) (.cells #[.string ck, .string cv, .bool cd] 52)); rw [World.size_alloc, hn2] at q; exact q))
        | (at_builtin; refine wpList_append_lies _ rfl (.tmp 27) (.tmp 29) 48 rfl H 52 i52 (.agg #[.string ⟨#[]⟩, .string ⟨#[]⟩, .bool false]) 3 40 Tryz.underlying48 F52.out FZ.out FS.out FB.out rfl (by omega) u5 j xs rfl ((o2.alloc _).alloc _) ⟨n2 + 1, 0, none⟩ 1 1 [.string ck, .string cv, .bool cd] rfl rfl hnews.out (by intro u hu; simp at hu; rcases hu with rfl | rfl | rfl <;> rfl) (by omega) (by unfold maxLen; omega) (by omega) (by simp; omega) (n2 + 2) (by simp [hn2]) ?_; intro g2 cap2 w3 hown3 hgrow hat hlt3))
      have b3 : Below H w w3 := below_grown (((hb.trans (b2.mono hsz)).alloc (by omega) _).alloc (by simp; omega) _) hgrow (by simp; omega) ((o2.alloc _).alloc _)
      refine ⟨⟨j + 1, t + L, by omega, rfl, S1.out, by omega, by omega, ?_, (by have := b3.size; have := HH.out; omega), b3⟩, by simp; omega⟩
      rw [S2.out]
      exact hown3
    · obtain rfl : j = m := by omega
      have htT2 := hend.out t ht.out
      subst htT2
      rw [hrow.out] at hown
      by_cases htl : tl = []
      · obtain ⟨q1, q2⟩ := hTL.out htl
        have g1 : ¬ (t : Int) < (s.size : Int) := by omega
        clear one hstep hTL hTN last ht hend hrow
        go_wp2
        go_ret3
        exact ⟨_, by first | rfl | (rw [q1]; rfl), hown, hb⟩
      · obtain ⟨q1, q2, q3⟩ := hTN.out htl
        have k1 : Hid (Calls Tryz.prog 226 #[.string (s.extract t s.size)] wr fun e w' => e = .returned (.tuple #[.agg #[.string ⟨#[]⟩, .string ⟨#[]⟩, .bool false], .int .i64 0, .int .i64 E]) ∧ Below wr.heap.size wr w') := last.out wr q1
        have g1 : (t : Int) < (s.size : Int) := by omega
        clear one hstep hTL hTN last ht hend hrow
        have e1 : (E != 0) = true := by simpa using q1
        have e2 : (E == 0) = false := by simpa using q1
        go_wp2_with (go_at_call 226; refine k1.out.mono ?_; rintro e w2 ⟨rfl, b2⟩; have o2 := row_below hown b2; have z2 := b2.size)
        go_ret3
        exact ⟨_, by first | rfl | (rw [q2]; rfl) | (rw [← q2]; rfl), o2.alloc _, (hb.trans (b2.mono hsz)).alloc (by omega) _⟩
end Go.Proofs.YtfmmholkeadejaaGreatDoor
