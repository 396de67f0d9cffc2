/- CkAtoi, CkSegs, CkNums, CkChanges, CkLoadA. -/
import Derived.Lib.AtoiErrMem
import Derived.Test.YtfmmholkeadejaaGreatDoorZC0
import Derived.Test.YtfmmholkeadejaaGreatDoorZLits
import Derived.Test.YtfmmholkeadejaaGreatDoorZC1
import Derived.Test.YtfmmholkeadejaaGreatDoorZCkDisk
/- Six digits are read again, and rise as their numbers do. -/
namespace Go.Proofs.YtfmmholkeadejaaGreatDoor

theorem dig_nat (n : Nat) : (dig n).toNat = 48 + n % 10 := by
  have h : n % 10 < 10 := Nat.mod_lt _ (by decide)
  rw [dig, UInt8.toNat_ofNat']; omega
theorem dig_val (n : Nat) : Lib.digitVal (dig n) = some (n % 10) := by
  have h : n % 10 < 10 := Nat.mod_lt _ (by decide)
  unfold Lib.digitVal
  simp only [dig_nat]
  rw [if_pos (by omega)]
  congr 1
  omega
theorem six_atoi (n : Nat) (h : n ≤ 999999) : Lib.atoi (six n) = some (n : Int) := by
  have h1 : ((dig (n / 100000)) == 45) = false := by
    rw [beq_eq_false_iff_ne]
    intro e
    have := congrArg UInt8.toNat e
    rw [dig_nat] at this
    have e2 : (45 : UInt8).toNat = 45 := rfl
    omega
  have h2 : ((dig (n / 100000)) == 43) = false := by
    rw [beq_eq_false_iff_ne]
    intro e
    have := congrArg UInt8.toNat e
    rw [dig_nat] at this
    have e2 : (43 : UInt8).toNat = 43 := rfl
    omega
  unfold six Lib.atoi
  show (if (dig (n / 100000) == 45) = true then _ else if (dig (n / 100000) == 43) = true then _ else Option.map (fun (m : Nat) => (m : Int)) (Lib.decNat [dig (n / 100000), dig (n / 10000), dig (n / 1000), dig (n / 100), dig (n / 10), dig n])) = _
  rw [h1, h2, if_neg (by decide), if_neg (by decide)]
  have hd : Lib.decNat [dig (n / 100000), dig (n / 10000), dig (n / 1000), dig (n / 100), dig (n / 10), dig n] = some n := by
    show Lib.decFrom 0 [dig (n / 100000), dig (n / 10000), dig (n / 1000), dig (n / 100), dig (n / 10), dig n] = some n
    simp only [Lib.decFrom, dig_val]
    congr 1
    omega
  rw [hd]; rfl
end Go.Proofs.YtfmmholkeadejaaGreatDoor

/- Segments' names rise as their numbers do: what a disk lists of a cask. -/
namespace Go.Proofs.YtfmmholkeadejaaGreatDoor

theorem dig_lt {a b : Nat} (h : a % 10 < b % 10) : dig a < dig b := by
  rw [UInt8.lt_iff_toNat_lt, dig_nat, dig_nat]
  omega
theorem dig_eq {a b : Nat} (h : a % 10 = b % 10) : dig a = dig b := by unfold dig; rw [h]
theorem lex_step {a b : Nat} {l m : List UInt8} (h : a % 10 < b % 10 ∨ (a % 10 = b % 10 ∧ l < m)) : dig a :: l < dig b :: m := by
  rw [List.cons_lt_cons_iff]
  rcases h with h | ⟨h, h2⟩
  · exact .inl (dig_lt h)
  · exact .inr ⟨dig_eq h, h2⟩
theorem dstep {a b : Nat} (hle : a ≤ b) (he : a / 10 = b / 10) (hn : ¬ a % 10 < b % 10) : a = b := by omega
theorem dmod {a b : Nat} (h : a = b) : a % 10 = b % 10 := by rw [h]
theorem ddiv (n k : Nat) : n / (k * 10) = n / k / 10 := (Nat.div_div_eq_div_mul n k 10).symm
theorem six_lt {n m : Nat} (h : n < m) (hm : m ≤ 999999) : six n < six m := by
  have le : ∀ k, n / k ≤ m / k := fun k => Nat.div_le_div_right (Nat.le_of_lt h)
  unfold six
  by_cases h5 : n / 100000 % 10 < m / 100000 % 10
  · exact lex_step (.inl h5)
  have e5 : n / 100000 = m / 100000 := dstep (le _) (by rw [Nat.div_div_eq_div_mul, Nat.div_div_eq_div_mul, Nat.div_eq_of_lt (by omega), Nat.div_eq_of_lt (by omega)]) h5
  refine lex_step (.inr ⟨dmod e5, ?_⟩)
  by_cases h4 : n / 10000 % 10 < m / 10000 % 10
  · exact lex_step (.inl h4)
  have e4 : n / 10000 = m / 10000 := dstep (le _) (by rw [← ddiv, ← ddiv]; exact e5) h4
  refine lex_step (.inr ⟨dmod e4, ?_⟩)
  by_cases h3 : n / 1000 % 10 < m / 1000 % 10
  · exact lex_step (.inl h3)
  have e3 : n / 1000 = m / 1000 := dstep (le _) (by rw [← ddiv, ← ddiv]; exact e4) h3
  refine lex_step (.inr ⟨dmod e3, ?_⟩)
  by_cases h2 : n / 100 % 10 < m / 100 % 10
  · exact lex_step (.inl h2)
  have e2 : n / 100 = m / 100 := dstep (le _) (by rw [← ddiv, ← ddiv]; exact e3) h2
  refine lex_step (.inr ⟨dmod e2, ?_⟩)
  by_cases h1 : n / 10 % 10 < m / 10 % 10
  · exact lex_step (.inl h1)
  have e1 : n / 10 = m / 10 := dstep (le _) (by rw [← ddiv, ← ddiv]; exact e2) h1
  refine lex_step (.inr ⟨dmod e1, ?_⟩)
  clear h5 h4 h3 h2 h1 e5 e4 e3 e2 le
  exact lex_step (.inl (by omega))
theorem app_lt (p : List UInt8) {l m : List UInt8} (h : l < m) : p ++ l < p ++ m := by
  induction p with
  | nil => exact h
  | cons a p ih => exact List.cons_lt_cons_iff.2 (.inr ⟨rfl, ih⟩)
theorem fileB_lt (s : ByteArray) {n m : Nat} (h : n < m) (hm : m ≤ 999999) : (fileB s n).data.toList < (fileB s m).data.toList := by
  rw [fileB_list, fileB_list]
  exact app_lt _ (List.cons_lt_cons_iff.2 (.inr ⟨rfl, six_lt h hm⟩))
/-- Two rising lists of the same names are one. -/
theorem rise_ext : ∀ {l m : List (List UInt8)}, l.Pairwise (· < ·) → m.Pairwise (· < ·) → (∀ k, k ∈ l ↔ k ∈ m) → l = m
  | [], [], _, _, _ => rfl
  | [], y :: m, _, _, h => by have := (h y).2 (List.mem_cons_self ..); cases this
  | x :: l, [], _, _, h => by have := (h x).1 (List.mem_cons_self ..); cases this
  | x :: l, y :: m, hl, hm, h => by
    obtain ⟨l1, l2⟩ := List.pairwise_cons.1 hl
    obtain ⟨m1, m2⟩ := List.pairwise_cons.1 hm
    have hxy : x = y := by
      rcases List.mem_cons.1 ((h x).1 (List.mem_cons_self ..)) with e | e
      · exact e
      · rcases List.mem_cons.1 ((h y).2 (List.mem_cons_self ..)) with e2 | e2
        · exact e2.symm
        · exact absurd (List.lt_trans (m1 x e) (l1 y e2)) (List.lt_irrefl _)
    subst hxy
    rw [rise_ext l2 m2 (fun k => ⟨fun hk => ?_, fun hk => ?_⟩)]
    · rcases List.mem_cons.1 ((h k).1 (List.mem_cons_of_mem _ hk)) with e | e
      · rw [e] at hk; exact absurd (l1 x hk) (List.lt_irrefl _)
      · exact e
    · rcases List.mem_cons.1 ((h k).2 (List.mem_cons_of_mem _ hk)) with e | e
      · rw [e] at hk; exact absurd (m1 x hk) (List.lt_irrefl _)
      · exact e
theorem listK_segs {S : Dk} (hr : Rising S.fs) (nm : ByteArray) (ns : List Nat) (hns : ns.Pairwise (· < ·)) (hm : ∀ n ∈ ns, n ≤ 999999) (hin : ∀ n ∈ ns, (fileB nm n).data.toList ∈ S.fs.map Prod.fst)
    (hpre : ∀ n ∈ ns, preS (nm ++ (⟨#[46]⟩ : ByteArray)) ⟨((fileB nm n).data.toList).toArray⟩ = true)
    (hall : ∀ k ∈ S.fs.map Prod.fst, preS (nm ++ (⟨#[46]⟩ : ByteArray)) ⟨k.toArray⟩ = true → ∃ n ∈ ns, k = (fileB nm n).data.toList) :
    listK S (nm ++ (⟨#[46]⟩ : ByteArray)) = ns.map fun n => (fileB nm n).data.toList := by
  unfold listK
  refine rise_ext ?_ ?_ (fun k => ⟨fun hk => ?_, fun hk => ?_⟩)
  · exact (List.pairwise_map.2 hr).filter _
  · refine List.pairwise_map.2 (List.Pairwise.imp_of_mem (fun {a b} ha hb h => fileB_lt nm h (hm b hb)) hns)
  · obtain ⟨h1, h2⟩ := List.mem_filter.1 hk
    obtain ⟨n, hn, e⟩ := hall k h1 h2
    exact List.mem_map.2 ⟨n, hn, e.symm⟩
  · obtain ⟨n, hn, rfl⟩ := List.mem_map.1 hk
    exact List.mem_filter.2 ⟨hin n hn, hpre n hn⟩
end Go.Proofs.YtfmmholkeadejaaGreatDoor

/- The numbers of a cask's segments. -/
namespace Go.Proofs.YtfmmholkeadejaaGreatDoor
open Go.RowKit

theorem atoi_file (nm : ByteArray) (n : Nat) (hn : n ≤ 999999) (W : World) : Calls Tryz.prog 264 #[.string ((fileB nm n).extract (nm.size + 1) (fileB nm n).size)] W fun e w' => e = .returned (.tuple #[.int .i64 (n : Int), .nilIface]) ∧ Below W.heap.size W w' := by
  have e0 : ((fileB nm n).extract (nm.size + 1) (fileB nm n).size).data.toList = six n := by
    rw [extract_drop, fileB_list]
    have e1 : nm.data.toList.length = nm.size := rfl
    rw [List.drop_append, List.drop_eq_nil_of_le (by omega), e1, Nat.add_sub_cancel_left]
    rfl
  have hz : ((fileB nm n).extract (nm.size + 1) (fileB nm n).size).size ≤ 18 := by
    show ((fileB nm n).extract (nm.size + 1) (fileB nm n).size).data.toList.length ≤ 18
    rw [e0]; simp [six]
  refine (Tryz.strconv_Atoi _ (n : Int) hz (by rw [e0]; exact six_atoi n hn) W).mono ?_
  rintro e w' ⟨e1, t, rfl⟩
  exact ⟨e1, Lib.bytesWorld_below _ _ _⟩
theorem zfact {a : Nat} (h : a ≤ 20) : ¬ 9223372036854775807 < a + 1 := by omega
theorem afact {j n : Nat} (h : j < n) (hl : n ≤ 256) : j + 1 ≤ maxLen ∧ (j + 1) * 8 ≤ 140737488355328 := by unfold maxLen; omega
theorem gfact {a b : Nat} (h : b = a + 7) : (a : Int) + 1 ≤ (b : Int) := by omega
theorem wstep {j n : Nat} (h : j < n) (hl : n ≤ 16777216) : wrap64 ((j : Int) + 1) = (j : Int) + 1 := by unfold wrap64; omega
theorem le_alloc {H : Nat} {w : World} (h : H ≤ w.heap.size) (o : Obj) : H ≤ (w.alloc o).heap.size := by rw [World.size_alloc]; omega
theorem le6 {H : Nat} {a b : World} (h : a.heap.size = H) (hb : Below H a b) : H ≤ b.heap.size := h ▸ hb.size
set_option maxHeartbeats 800000 in
set_option maxRecDepth 100000 in
theorem numbers_some (N : Lo) (d : Nat) (S : Dk) (hon : S.on = true) (nm : ByteArray) (hnm : capOk nm = true) (ns : List Nat) (hns : ∀ n ∈ ns, 1 ≤ n ∧ n ≤ 999999) (hL : listK S (nm ++ (⟨#[46]⟩ : ByteArray)) = ns.map fun n => (fileB nm n).data.toList) (hl : ns.length ≤ 256) (w : World) (h : DiskAt w N d S) (hN : N ≤ w.heap.size) (hT : Tab N w) :
    Calls Tryz.prog 261 #[.agg #[.pointer (some ⟨d, 0, none⟩), .string nm]] w fun e w' => ∃ v, e = .returned v ∧ w'.ownsRow w.heap.size 3 1 v ns.length (segV ns) ∧ Below w.heap.size w w' := by
  obtain ⟨m, hm⟩ : ∃ m, w.heap.size = m := ⟨_, rfl⟩
  have hnz := capOk_le hnm
  have hb0 : Below m w (w.alloc (.cells #[.pointer (some ⟨d, 0, none⟩), .string nm] 106)) := (Below.refl _ _).alloc (by omega) _
  have hz0 : (w.alloc (.cells #[.pointer (some ⟨d, 0, none⟩), .string nm] 106)).heap.size = m + 1 := by simp [hm]
  have hbx : Hid (Holds (w.alloc (.cells #[.pointer (some ⟨d, 0, none⟩), .string nm] 106)) m [.pointer (some ⟨d, 0, none⟩), .string nm] 106) := hm ▸ holds_new w [.pointer (some ⟨d, 0, none⟩), .string nm] 106
  have hli : Hid (Calls Tryz.prog 89 #[.pointer (some ⟨d, 0, none⟩), .string (nm ++ (⟨#[46]⟩ : ByteArray))] (w.alloc (.cells #[.pointer (some ⟨d, 0, none⟩), .string nm] 106)) fun e w' => ∃ a c, e = .returned (.slice a ns.length c) ∧ (ns.length = 0 ∨ ∃ g, a = some ⟨g, 0, none⟩ ∧ g < w'.heap.size ∧ ∀ i n, ns[i]? = some n → w'.cell? ⟨g, i, none⟩ = some (.string (fileB nm n))) ∧ Below (m + 1) (w.alloc (.cells #[.pointer (some ⟨d, 0, none⟩), .string nm] 106)) w') := by
    refine (list_some N d S hon (nm ++ (⟨#[46]⟩ : ByteArray)) _ (h.alloc _)).mono ?_
    rintro e w' ⟨a, c, e1, e2, e3⟩
    rw [hz0] at e3
    rw [hL] at e1 e2
    rw [List.length_map] at e1
    refine ⟨a, c, e1, ?_, e3⟩
    rcases e2 with e2 | ⟨g, rfl, hc⟩
    · exact .inl (by simpa using e2)
    · rcases Nat.eq_zero_or_pos ns.length with h0 | hp
      · exact .inl h0
      · have hcc : ∀ i n, ns[i]? = some n → w'.cell? ⟨g, i, none⟩ = some (.string (fileB nm n)) := fun i n hi => by
          have := hc i (fileB nm n).data.toList (by rw [List.getElem?_map, hi]; rfl)
          rw [this]
        exact .inr ⟨g, rfl, World.block_lt_of_cell? w' _ (hcc 0 _ (List.getElem?_eq_getElem hp)), hcc⟩
  have hfi : Hid (∀ W n, n ∈ ns → Below (m + 1) (w.alloc (.cells #[.pointer (some ⟨d, 0, none⟩), .string nm] 106)) W → Calls Tryz.prog 36 #[.string nm, .int .i64 (n : Int)] W fun e w' => e = .returned (.string (fileB nm n)) ∧ Below W.heap.size W w') := fun W n hn hW => by
    have hs := hW.size
    rw [hz0] at hs
    exact file_ok N nm hnm n (hns n hn).1 (hns n hn).2 W (by omega) (hT.on ((hb0.mono (by omega)).trans (hW.mono (by omega))))
  have hat : Hid (∀ W n, n ∈ ns → Calls Tryz.prog 264 #[.string ((fileB nm n).extract (nm.size + 1) (fileB nm n).size)] W fun e w' => e = .returned (.tuple #[.int .i64 (n : Int), .nilIface]) ∧ Below W.heap.size W w') := fun W n hn => atoi_file nm n (hns n hn).2 W
  have hfz : ∀ n, (fileB nm n).size = nm.size + 7 := fun n => by
    show (fileB nm n).data.toList.length = _
    rw [fileB_list, List.length_append]; rfl
  obtain ⟨i3, f3, hz3, hs3, hb3⟩ := cinf3
  have F3 : Hid (Tryz.prog.info? 3 = some i3) := f3
  have FZ : Hid (i3.zero = some (.int .i64 0)) := hz3
  have FS : Hid (i3.size = 1) := hs3
  have FB : Hid (i3.bytes = 8) := hb3
  have z1 : ¬ 9223372036854775807 < nm.size + 1 := zfact hnz.2.1
  obtain ⟨ln, hln⟩ : ∃ ln, ns.length = ln := ⟨_, rfl⟩
  have HM : Hid (ns.length = ln) := hln
  have HE : Hid (∀ (v : Value) (W : World), W.ownsRow m 3 1 v ln (segV (ns.take ln)) → W.ownsRow m 3 1 v ns.length (segV ns)) := fun v W q => by
    rw [← hln, List.take_length] at q; exact q
  rw [hm]
  rw [hln] at hli hl
  clear h hT hN hnm hon hL f3 hz3 hs3 hb3 hln hns
  go_enter Tryz.func261, Tryz.ntmps261
  go_wp2_with (go_at_call 89; refine hli.out.mono ?_; rintro e w2 ⟨a, cp, rfl, hcs, b2⟩; have q2 := hbx.out.below b2 (by omega))
  obtain ⟨H, hH⟩ : ∃ H, w2.heap.size = H := ⟨_, rfl⟩
  have HH : Hid (w2.heap.size = H) := hH
  have hmH : m + 1 ≤ H := by have := b2.size; omega
  have B2 : Hid (Below m w w2) := hb0.trans (b2.mono (by omega))
  have C2 : Hid (∀ W, Below H w2 W → W.cell? ⟨m, 1, none⟩ = some (.string nm)) := fun W hW => (q2.below hW (by omega)).at 1 _ rfl
  have G2 : Hid (∀ W, Below H w2 W → Below (m + 1) (w.alloc (.cells #[.pointer (some ⟨d, 0, none⟩), .string nm] 106)) W) := fun W hW => b2.trans (hW.mono hmH)
  have K2 : Hid (∀ W (i n : Nat), Below H w2 W → ns[i]? = some n → ∃ g, a = some ⟨g, 0, none⟩ ∧ W.cell? ⟨g, i, none⟩ = some (.string (fileB nm n))) := fun W i n hW hi => by
    rcases hcs with h0 | ⟨g, e, hg, hc⟩
    · have h9 := (List.getElem?_eq_some_iff.1 hi).1
      have h8 : ns.length = ln := HM.out
      omega
    · exact ⟨g, e, (World.cell?_of_block (hW.block g (by omega))).trans (hc i n hi)⟩
  have hmono : Hid (∀ (v : Value) (W : World) (k : Nat) (xs : List Value), W.ownsRow H 3 1 v k xs → W.ownsRow m 3 1 v k xs) := fun v W k xs q => by
    refine ⟨q.1, ?_⟩
    rcases q.2 with q2 | ⟨g, cap, cur, e4, hb4, r⟩
    · exact .inl q2
    · exact .inr ⟨g, cap, cur, e4, by omega, r⟩
  clear hcs b2 q2 hbx hli
  go_loopw [3, 17] (fun v c wr => ∃ j : Nat, j ≤ ln ∧ c = .int .i64 (j : Int) ∧ wr.ownsRow H 3 1 v j (segV (ns.take j)) ∧ H ≤ wr.heap.size ∧ Below H w2 wr) (fun _ c _ => ln - (intOf c).toNat)
  case atStart => exact ⟨0, by omega, rfl, World.ownsRow_nil _ _ _ _, (by have := HH.out; omega), Below.refl _ _⟩
  case round =>
    obtain ⟨j, hj, rfl, hown, hsz, hb⟩ := hrel
    by_cases hlt : j < ln
    · obtain ⟨n, hn⟩ : ∃ n, ns[j]? = some n := ⟨ns[j]'(by have := HM.out; omega), List.getElem?_eq_getElem _⟩
      have hnm2 := List.mem_of_getElem? hn
      obtain ⟨g, rfl, cg⟩ := K2.out wr j n hb hn
      have k1 : Hid (Calls Tryz.prog 264 #[.string ((fileB nm n).extract (nm.size + 1) (fileB nm n).size)] wr fun e w' => e = .returned (.tuple #[.int .i64 (n : Int), .nilIface]) ∧ Below wr.heap.size wr w') := hat.out wr n hnm2
      have k2 : Hid (∀ W, Below H w2 W → Calls Tryz.prog 36 #[.string nm, .int .i64 (n : Int)] W fun e w' => e = .returned (.string (fileB nm n)) ∧ Below W.heap.size W w') := fun W hW => hfi.out W n hnm2 (G2.out W hW)
      have hst : Hid (segV (ns.take (j + 1)) = segV (ns.take j) ++ [.int .i64 (n : Int)]) := by
        show _ = _
        rw [List.take_add_one, hn]; simp [segV]
      have fz := hfz n
      have HO : Hid (wr.ownsRow H 3 1 u3 j (segV (ns.take j))) := hown
      have HB : Hid (Below H w2 wr) := hb
      have le2 : Hid (H ≤ wr.heap.size) := hsz
      generalize segV (ns.take j) = xs at *
      generalize fileB nm n = F at *
      have g1 : (nm.size : Int) + 1 ≤ (F.size : Int) := gfact fz
      have hA1 : Hid (j + 1 ≤ maxLen) := (afact hlt hl).1
      have hA2 : Hid ((j + 1) * 8 ≤ 140737488355328) := (afact hlt hl).2
      have hW := wstep hlt (Nat.le_trans hl (by decide))
      have g2 : (0 : Int) ≤ (j : Int) := Int.natCast_nonneg j
      have g3 : (j : Int) < (ln : Int) := Int.ofNat_lt.2 hlt
      have Fz : Hid (F.size = nm.size + 7) := fz
      clear hat hfi hn hnm2 K2 hfz fz hown hb hnz hl hsz G2 HE hmono hmH
      go_wp2_with (first
        | (at_builtin; refine wpList_append_src rfl (.tmp 39) (.tmp 41) 26 rfl H 3 i3 (.int .i64 0) 1 8 Tryz.underlying26 F3.out FZ.out FS.out FB.out rfl (by decide) _ _ _ (O4.out.alloc _) rfl [.int .i64 (n : Int)] _ _ _ rfl rfl (fun _ => ⟨_, rfl, hnews.out⟩) (by intro u hu; simp at hu; subst hu; rfl) hA1.out hA2.out le5.out ?_; intro v5 w5 own5 gr5 at5)
        | (go_at_call 36; refine (k2.out _ HB3.out).mono ?_; rintro e w4 ⟨rfl, b4⟩; have O4 : Hid (w4.ownsRow H 3 1 u3 j xs) := row_below O3.out b4; have HB4 : Hid (Below H w2 w4) := HB3.out.trans (b4.mono le3.out); have le5 : Hid (H ≤ (w4.alloc (.cells #[.int .i64 (n : Int)] 3)).heap.size) := le_alloc (Nat.le_trans le3.out b4.size) _; have hnews : Hid (∀ (i : Nat) (u : Value), [Value.int .i64 (n : Int)][i]? = some u → (w4.alloc (.cells #[.int .i64 (n : Int)] 3)).cell? ((⟨w4.heap.size, 0, none⟩ : Addr).add i) = some u) := World.news_of_block (heap_alloc_new w4 (.cells #[.int .i64 (n : Int)] 3)); clear b4 O3 HB3)
        | (go_at_call 264; refine k1.out.mono ?_; rintro e w3 ⟨rfl, b3⟩; have O3 : Hid (w3.ownsRow H 3 1 u3 j xs) := row_below HO.out b3; have HB3 : Hid (Below H w2 w3) := HB.out.trans (b3.mono le2.out); have c3 := C2.out _ HB3.out; have le3 : Hid (H ≤ w3.heap.size) := Nat.le_trans le2.out b3.size; clear b3 HO))
      go_roundw
      case rel =>
        refine ⟨j + 1, hlt, by simp [hW], ?_, ?_, ?_⟩
        · rw [hst.out]; exact own5
        · exact Nat.le_trans le5.out gr5.size
        · exact below_grown (HB4.out.alloc (le6 HH.out HB4.out) _) gr5 le5.out (O4.out.alloc _)
      case measure => simp [hW]; omega
    · obtain rfl : j = ln := by omega
      go_wp2
      go_ret
      exact ⟨_, rfl, HE.out _ _ (hmono.out _ _ _ _ hown), B2.out.trans (hb.mono (by omega))⟩
end Go.Proofs.YtfmmholkeadejaaGreatDoor

/- The changes of a segment. -/
namespace Go.Proofs.YtfmmholkeadejaaGreatDoor
open Go.RowKit

set_option maxHeartbeats 3200000 in
set_option maxRecDepth 100000 in
theorem changes_some (N : Lo) (d : Nat) (S : Dk) (hon : S.on = true) (nm : ByteArray) (hnm : capOk nm = true) (n : Nat) (h1 : 1 ≤ n) (h2 : n ≤ 999999) (f : Fl) (hf : get S.fs (fileB nm n).data.toList = some f) (cs : List Ch) (hok : ∀ c ∈ cs, c.Ok) (tl : List UInt8) (htl : tl ≠ [] → Pk.uE (Pk.strL tl) ≠ 0) (hb : f.bytes = cs.flatMap chB ++ tl) (w : World) (h : DiskAt w N d S) (hN : N ≤ w.heap.size) (hT : Tab N w) :
    Calls Tryz.prog 259 #[.agg #[.pointer (some ⟨d, 0, none⟩), .string nm], .int .i64 (n : Int)] w fun e w' => ∃ v, e = .returned (.tuple #[v, .int .i64 (tlE tl)]) ∧ w'.ownsRow w.heap.size 52 3 v cs.length (rowC cs) ∧ Below w.heap.size w w' := by
  obtain ⟨m, hm⟩ : ∃ m, w.heap.size = m := ⟨_, rfl⟩
  have hfz : f.bytes.length ≤ 16777216 := by
    have := used_le_mem hf
    have := h.fine.used
    omega
  have hnz := fileB_size hnm n
  have hfd : foundE S (fileB nm n) = 0 := by rw [foundE, if_pos hon, if_pos (fileB_ok hnm n), hf]; rfl
  have hrv : readV S (fileB nm n) = strL f.bytes := by rw [readV, if_pos hfd, hf]
  have hb0 : Below m w (w.alloc (.cells #[.pointer (some ⟨d, 0, none⟩), .string nm] 106)) := (Below.refl _ _).alloc (by omega) _
  have hz0 : (w.alloc (.cells #[.pointer (some ⟨d, 0, none⟩), .string nm] 106)).heap.size = m + 1 := by simp [hm]
  have hbx : Hid (Holds (w.alloc (.cells #[.pointer (some ⟨d, 0, none⟩), .string nm] 106)) m [.pointer (some ⟨d, 0, none⟩), .string nm] 106) := hm ▸ holds_new w [.pointer (some ⟨d, 0, none⟩), .string nm] 106
  have hfi : Hid (Calls Tryz.prog 36 #[.string nm, .int .i64 (n : Int)] (w.alloc (.cells #[.pointer (some ⟨d, 0, none⟩), .string nm] 106)).drew fun e w' => e = .returned (.string (fileB nm n)) ∧ Below (m + 1) (w.alloc (.cells #[.pointer (some ⟨d, 0, none⟩), .string nm] 106)) w') := by
    have := file_ok N nm hnm n h1 h2 (w.alloc (.cells #[.pointer (some ⟨d, 0, none⟩), .string nm] 106)).drew (by simp; omega) (hT.on ((hb0.mono (by omega)).drew))
    refine this.mono fun _ _ ⟨e1, e2⟩ => ⟨e1, ?_⟩
    have hz1 : (w.alloc (.cells #[.pointer (some ⟨d, 0, none⟩), .string nm] 106)).drew.heap.size = m + 1 := hz0
    rw [hz1] at e2
    exact (Below.refl _ (w.alloc (.cells #[.pointer (some ⟨d, 0, none⟩), .string nm] 106))).drew.trans e2
  have hrd : Hid (∀ W, Below (m + 1) (w.alloc (.cells #[.pointer (some ⟨d, 0, none⟩), .string nm] 106)) W → Calls Tryz.prog 109 #[.pointer (some ⟨d, 0, none⟩), .string (fileB nm n)] W fun e w' => e = .returned (.tuple #[.string (strL f.bytes), .int .i64 0]) ∧ Below m w w') := fun W hW => by
    have hs := hW.size
    rw [hz0] at hs
    have hd : DiskAt W N d S := (h.alloc _).below (by rw [hz0]; exact hW)
    have := read_some N d S (fileB nm n) (by omega) W hd
    rw [hfd, hrv] at this
    exact this.mono fun _ _ ⟨e1, e2⟩ => ⟨e1, (hb0.trans (hW.mono (by omega))).trans (e2.mono (by omega))⟩
  have hpa : Hid (∀ W, Below m w W → Calls Tryz.prog 200 #[.string (strL f.bytes)] W fun e w' => ∃ v k, e = .returned (.tuple #[v, .int .i64 k, .int .i64 (tlE tl)]) ∧ w'.ownsRow m 52 3 v cs.length (rowC cs) ∧ Below m w w') := fun W hW => by
    have hs := hW.size
    refine (parse_some cs hok tl htl (strL f.bytes) hb hfz W).mono ?_
    rintro e w' ⟨v, e1, e2, e3⟩
    refine ⟨v, _, e1, ?_, hW.trans (e3.mono (by omega))⟩
    rcases e2 with ⟨q1, q2⟩
    refine ⟨q1, ?_⟩
    rcases q2 with q2 | ⟨g, cap, cur, e4, hb4, r⟩
    · exact .inl q2
    · exact .inr ⟨g, cap, cur, e4, by omega, r⟩
  have c0 : (w.alloc (.cells #[.pointer (some ⟨d, 0, none⟩), .string nm] 106)).cell? ⟨m, 0, none⟩ = some (.pointer (some ⟨d, 0, none⟩)) := hbx.out.at 0 _ rfl
  have c1 : (w.alloc (.cells #[.pointer (some ⟨d, 0, none⟩), .string nm] 106)).cell? ⟨m, 1, none⟩ = some (.string nm) := hbx.out.at 1 _ rfl
  rw [hm]
  clear h hT hN hnm hb hok htl hfd hrv hf hfz
  generalize tlE tl = E at *
  generalize strL f.bytes = B at *
  generalize fileB nm n = F at *
  go_enter Tryz.func259, Tryz.ntmps259
  go_wp2_with fail
  go_region_with (first
    | (go_at_call 109; refine (hrd.out _ b1).mono ?_; rintro e w2 ⟨rfl, b2⟩)
    | (go_at_call 36; refine hfi.out.mono ?_; rintro e w1 ⟨rfl, b1⟩; have q := hbx.out.below b1 (by omega); have q0 := q.at 0 _ rfl; have q1 := q.at 1 _ rfl))
  all_goals
    go_wp2_with (go_at_call 200; refine (hpa.out _ b2).mono ?_; rintro e w3 ⟨v3, k3, rfl, o3, b3⟩)
    go_ret2
    exact ⟨v3, rfl, o3, b3⟩
end Go.Proofs.YtfmmholkeadejaaGreatDoor

/- What load makes of segments: without memory, and the list of segments grown. -/
namespace Go.Proofs.YtfmmholkeadejaaGreatDoor
open Go.RowKit Go.Maps Go.WideMaps

/-- The list of segments has grown, no more. -/
theorem CaskOpen.growL {w w' : World} {N : Lo} {c d mb : Nat} {sv sv' : Value} {S : Dk} {K : Ck} (h : CaskOpen w N c d mb sv S K) (hg : w.grownBy w' sv.ownBlock) (n : Nat) (hn : 1 ≤ n ∧ n ≤ 999999) (hm : K.segs.length < 16777216)
    (hr : w'.ownsRow N 3 1 sv' (K.segs.length + 1) (segV K.segs ++ [.int .i64 (n : Int)])) :
    CaskOpen (w'.setCell ⟨c, 3, none⟩ sv') N c d mb sv' S { K with segs := K.segs ++ [n] } ∧ w'.cell? ⟨c, 3, none⟩ = some sv ∧ w'.frozen? ⟨c, 3, none⟩ = false := by
  have hoth : ∀ (i : Nat), (∀ cs fr, w.heap[i]? ≠ some (Obj.cells cs 3 fr)) → i < w.heap.size → w'.heap[i]? = w.heap[i]? := fun i hi hlt => hg.block i hlt (fun e => by
    rcases h.row.2 with ⟨q, _⟩ | ⟨g, cap, cur, q, hb, hgg, r⟩
    · rw [q] at e; cases e
    · rw [q] at e
      obtain rfl : i = g := by simpa [Value.ownBlock] using e
      exact hi _ _ hgg)
  have hcell : ∀ (i : Nat) cs t fr, w.heap[i]? = some (Obj.cells cs t fr) → t ≠ 3 → w'.heap[i]? = w.heap[i]? := fun i cs t fr hi ht => hoth i (fun cs' fr' e => by
    rw [hi] at e
    simp at e
    exact ht e.2.1) (Array.getElem?_eq_some_iff.1 hi).1
  have hmap : ∀ (i : Nat) es k, w.heap[i]? = some (Obj.map es k) → w'.heap[i]? = w.heap[i]? := fun i es k hi => hoth i (fun cs' fr' e => by rw [hi] at e; cases e) (Array.getElem?_eq_some_iff.1 hi).1
  have hH : Holds w' c (ckV d mb sv K) 28 := by
    have q := h.holds
    unfold Holds at q ⊢
    rw [hcell c _ _ _ q (by decide)]; exact q
  have hD : DiskAt w' N d S := by
    obtain ⟨mv, st, A, V, q, hN, hM, hF, hS⟩ := h.disk
    refine ⟨mv, st, A, V, ?_, hN, hM.same hmap, hF.same (fun i cs t fr hi ht => hcell i cs t fr hi (by rcases ht with rfl | rfl <;> decide)), hS⟩
    unfold Holds at q ⊢
    rw [hcell d _ _ _ q (by decide)]; exact q
  have hK : KeysAt w' mb K.kv := by
    obtain ⟨es, cl, q⟩ := h.keys.isMap
    exact h.keys.same (hmap mb es cl q)
  refine ⟨?_, hH.at 3 _ rfl, hH.frozen 3⟩
  have h3 := hH.set 3 sv'
  have hD3 := hD.setOther c 3 sv' _ 28 hH (by decide) (by decide) (by decide)
  have hne3 : ∀ (u : World) (i : Nat) (x : Value) (j : Nat), j ≠ c → (u.setCell ⟨c, i, none⟩ x).heap[j]? = u.heap[j]? := fun u i x j hj => heap_setCell_other u ⟨c, i, none⟩ j x hj
  have hmc : mb ≠ c := fun e => by
    obtain ⟨es, cl, q⟩ := h.keys.isMap
    have q2 := h.holds
    unfold Holds at q2
    rw [e, q2] at q; cases q
  have hrow : (w'.setCell ⟨c, 3, none⟩ sv').ownsRow N 3 1 sv' (K.segs.length + 1) (segV K.segs ++ [.int .i64 (n : Int)]) := by
    refine row_same hr (fun j cs fr hj => ?_)
    have hjc : j ≠ c := fun e => by
      subst e
      unfold Holds at hH
      rw [hH] at hj
      simp at hj
    rw [hne3 _ _ _ _ hjc]
  refine ⟨h3, h.le, h.guard2, fun i hi => by have := h.lt i hi; have := hg.size; simp; omega, ?_, ?_, hD3, ?_⟩
  · exact hK.same (by rw [hne3 _ _ _ _ hmc])
  · have e1 : segV (K.segs ++ [n]) = segV K.segs ++ [.int .i64 (n : Int)] := by simp [segV]
    show World.ownsRow _ _ _ _ _ (K.segs ++ [n]).length (segV (K.segs ++ [n]))
    rw [e1, List.length_append]
    exact hrow
  · exact ⟨h.fine.rise, h.fine.nm, fun x hx => by
      rcases List.mem_append.1 hx with hx | hx
      · exact h.fine.segs x hx
      · simp at hx; subst hx; exact hn, by show (K.segs ++ [n]).length ≤ _; rw [List.length_append]; simp; omega, h.fine.keys, h.fine.size, h.fine.recs, h.fine.left, fun _ => by show K.segs ++ [n] ≠ []; simp, fun _ => by show K.segs ++ [n] ≠ []; simp⟩

/-- A change as it is read again. -/
def chN (c : Ch) : Ch := ⟨c.k, c.val, c.dead⟩
theorem chN_ok {c : Ch} (h : c.Ok) : (chN c).Ok := by
  unfold Ch.Ok chN Ch.val
  cases hd : c.dead with
  | true => exact cfE_dead h
  | false => exact h
theorem takeF_val (c : Ch) (kv : Fs) : takeF (chN c) kv = takeF c kv := by
  unfold takeF chN Ch.val
  cases hd : c.dead <;> simp
/-- A cask that has read changes out of segments. -/
def ldC (nm : ByteArray) (chs : List Ch) (ns : List Nat) : Ck := ⟨nm, chs.foldl (fun kv c => takeF c kv) [], (chs.length : Int), ns, 0, false, false⟩
theorem ldC_take (nm : ByteArray) (chs : List Ch) (ns : List Nat) (c : Ch) : takeK (ldC nm chs ns) (chN c) = ldC nm (chs ++ [c]) ns := by
  unfold takeK ldC
  simp only [takeF_val, List.foldl_append, List.foldl_cons, List.foldl_nil, List.length_append, List.length_cons, List.length_nil]
  congr 1
theorem ldC_len (nm : ByteArray) (chs : List Ch) (ns : List Nat) : (ldC nm chs ns).kv.length ≤ chs.length := by
  have : ∀ (l : List Ch) (kv : Fs), (l.foldl (fun kv c => takeF c kv) kv).length ≤ kv.length + l.length := by
    intro l
    induction l with
    | nil => intro kv; simp
    | cons c l ih =>
      intro kv
      have h1 := ih (takeF c kv)
      have h2 := takeF_len c kv
      simp only [List.foldl_cons, List.length_cons]
      omega
  have h := this chs []
  show (chs.foldl (fun kv c => takeF c kv) []).length ≤ _
  simpa using h
/-- A segment: its number, its changes, and what is left of a torn one. -/
structure Sg where
  n : Nat
  cs : List Ch
  tl : List UInt8
structure SgOn (S : Dk) (nm : ByteArray) (x : Sg) : Prop where
  num : 1 ≤ x.n ∧ x.n ≤ 999999
  file : ∃ f, get S.fs (fileB nm x.n).data.toList = some f ∧ f.bytes = x.cs.flatMap chB ++ x.tl
  oks : ∀ c ∈ x.cs, c.Ok
  torn : x.tl ≠ [] → Pk.uE (Pk.strL x.tl) = 10
theorem SgOn.err {S : Dk} {nm : ByteArray} {x : Sg} (h : SgOn S nm x) : tlE x.tl = 0 ∨ tlE x.tl = 10 := by
  unfold tlE
  by_cases q : x.tl = []
  · rw [if_pos q]; exact .inl rfl
  · rw [if_neg q]; exact .inr (h.torn q)
/-- Rows of other kinds are as they were. -/
theorem CUpd.row {N : Lo} {c mb : Nat} {w w' : World} {base : Nat} {e : TypeId} {size : Nat} {v : Value} {n : Nat} {xs : List Value} (hu : CUpd N (Own2 c mb) w w') (h : w.ownsRow base e size v n xs) (h1 : e ≠ 122) (h2 : e ≠ 128) (h3 : e ≠ 5) (hc : ∀ cs fr, w.heap[c]? ≠ some (Obj.cells cs e fr)) (hm : ∀ cs fr, w.heap[mb]? ≠ some (Obj.cells cs e fr)) : w'.ownsRow base e size v n xs :=
  row_same h (fun i cs fr hi => hu.block i (Array.getElem?_eq_some_iff.1 hi).1 (fun q => by
    rcases q with rfl | rfl
    · exact hc _ _ hi
    · exact hm _ _ hi) (.inr ⟨cs, e, fr, hi, h1, h2, h3⟩))
theorem CaskOpen.notc {w : World} {N : Lo} {c d mb : Nat} {sv : Value} {S : Dk} {K : Ck} (h : CaskOpen w N c d mb sv S K) (e : TypeId) (he : e ≠ 28) : (∀ cs fr, w.heap[c]? ≠ some (Obj.cells cs e fr)) ∧ ∀ cs fr, w.heap[mb]? ≠ some (Obj.cells cs e fr) := by
  refine ⟨fun cs fr q => ?_, fun cs fr q => ?_⟩
  · have q2 := h.holds
    unfold Holds at q2
    rw [q2] at q
    simp at q
    exact he q.2.1.symm
  · obtain ⟨es, cl, q2⟩ := h.keys.isMap
    rw [q2] at q
    cases q
end Go.Proofs.YtfmmholkeadejaaGreatDoor
