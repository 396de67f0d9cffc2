/- Crash. -/
import Derived.Test.YtfmmholkeadejaaGreatDoorZD4
namespace Go.Proofs.YtfmmholkeadejaaGreatDoor
open Go.RowKit Go.Maps Go.WideMaps

/-- What a crash leaves of a file, and which picks are left. -/
def crash1 (f : Fl) (ps : List Int) : Fl × List Int :=
  if f.bytes.length - f.firm = 0 then (⟨f.bytes, f.bytes.length⟩, ps)
  else (⟨f.bytes.take (f.firm + staysN (ps.headD 0) (f.bytes.length - f.firm)), (f.bytes.take (f.firm + staysN (ps.headD 0) (f.bytes.length - f.firm))).length⟩, ps.tail)
def crashD : Fs → List Int → Fs × List Int
  | [], ps => ([], ps)
  | p :: r, ps => ((p.1, (crash1 p.2 ps).1) :: (crashD r (crash1 p.2 ps).2).1, (crashD r (crash1 p.2 ps).2).2)
theorem crashD_append : ∀ (l m : Fs) (ps : List Int), crashD (l ++ m) ps = ((crashD l ps).1 ++ (crashD m (crashD l ps).2).1, (crashD m (crashD l ps).2).2)
  | [], m, ps => by simp [crashD]
  | p :: r, m, ps => by
    rw [List.cons_append, crashD, crashD_append r m, crashD]
    rfl
theorem crashD_keys : ∀ (l : Fs) (ps : List Int), (crashD l ps).1.map Prod.fst = l.map Prod.fst
  | [], _ => rfl
  | p :: r, ps => by rw [crashD, List.map_cons, List.map_cons, crashD_keys r]
theorem crashD_range (P : Int → Prop) : ∀ (l : Fs) (ps : List Int), (∀ x ∈ ps, P x) → ∀ x ∈ (crashD l ps).2, P x
  | [], ps, h => h
  | p :: r, ps, h => by
    rw [crashD]
    refine crashD_range P r _ (fun x hx => ?_)
    unfold crash1 at hx
    split at hx
    · exact h x hx
    · exact h x (List.mem_of_mem_tail hx)
theorem put_mid : ∀ {A B : Fs} {k : List UInt8} {f f' : Fl}, Rising (A ++ (k, f) :: B) → put k f' (A ++ (k, f) :: B) = A ++ (k, f') :: B
  | [], B, k, f, f', _ => put_eq (p := (k, f)) rfl f' B
  | p :: A, B, k, f, f', h => by
    obtain ⟨h1, h2⟩ := List.pairwise_cons.1 h
    have hlt : p.1 < k := h1 (k, f) (by simp)
    have hne : ¬ k = p.1 := fun e => by rw [e] at hlt; exact List.lt_irrefl _ hlt
    have hnl : ¬ k < p.1 := fun e => List.lt_irrefl _ (List.lt_trans e hlt)
    rw [List.cons_append, put_gt hne hnl, put_mid h2]; rfl
/-- Names in a row of the call's own, as a list of texts. -/
theorem strs_of_row {w : World} {N : Lo} {H n : Nat} {v : Value} {xs : List (List UInt8)} (h : w.ownsRow H 9 1 v n (xs.map encStr)) (hn : xs.length = n) : ∃ a c, v = .slice a n c ∧ StrsAt w N a (xs.map strL) := by
  rcases h.2 with ⟨rfl, h0⟩ | ⟨g, cap, cur, rfl, hb, hg, h1, h2, h3, h4⟩
  · subst h0
    exact ⟨_, _, rfl, .inl (by simp [hn])⟩
  · refine ⟨_, _, rfl, .inr ⟨g, 0, rfl, (Array.getElem?_eq_some_iff.1 hg).1, .inr ⟨cur, 9, (0, 0), hg, by decide, by decide, by decide⟩, fun i x hi => ?_⟩⟩
    have hc := h.cells (g := g) rfl i (.string x) (by
      rw [List.getElem?_map] at hi ⊢
      cases hx : xs[i]? with
      | none => rw [hx] at hi; cases hi
      | some y => rw [hx] at hi; cases hi; rfl)
    have hadd : (⟨g, 0, none⟩ : Addr).add i = ⟨g, 0 + i, none⟩ := by unfold Addr.add; split <;> simp_all
    rw [hadd] at hc
    exact hc
theorem DiskAt.fine {w : World} {N : Lo} {d : Nat} {S : Dk} (h : DiskAt w N d S) : S.Fine := by
  obtain ⟨_, _, _, _, ho⟩ := h.open
  exact ho.fine.toFine
/-- Looking a file up. -/
theorem DiskAt.file {w : World} {N : Lo} {d : Nat} {S : Dk} (h : DiskAt w N d S) (s : ByteArray) (hs : s.size ≤ 32) (f : Fl) (hf : get S.fs s.data.toList = some f) : ∃ mv b, w.cell? ⟨d, 0, none⟩ = some mv ∧ (Instr.lookup 120 mv (.string s) false).run Tryz.prog w = .ok (.pointer (some ⟨b, 0, none⟩)) w ∧ DiskFile w N d S s.data.toList b := by
  obtain ⟨mv, st, A, V, ho⟩ := h.open
  obtain ⟨b, hb0, _⟩ := ho.files.file _ f hf
  have hlk := ho.map.look s (by unfold maxLen; omega)
  rw [hb0] at hlk
  exact ⟨mv, b, ho.holds.at 0 _ rfl, hlk, mv, st, A, V, ho, hb0⟩
/-- The disk on the way through a crash. -/
def midS (S : Dk) (ps : List Int) (j : Nat) : Dk := { S with fs := (crashD (S.fs.take j) ps).1 ++ S.fs.drop j }
def midP (S : Dk) (ps : List Int) (j : Nat) : List Int := (crashD (S.fs.take j) ps).2
theorem mid_next (S : Dk) (ps : List Int) (j : Nat) (k : List UInt8) (f : Fl) (h : S.fs[j]? = some (k, f)) (hr : Rising (midS S ps j).fs) :
    get (midS S ps j).fs k = some f ∧ put k (crash1 f (midP S ps j)).1 (midS S ps j).fs = (midS S ps (j + 1)).fs ∧ midP S ps (j + 1) = (crash1 f (midP S ps j)).2 := by
  have hj := (List.getElem?_eq_some_iff.1 h).1
  have hd : S.fs.drop j = (k, f) :: S.fs.drop (j + 1) := by
    rw [List.drop_eq_getElem_cons hj, (List.getElem?_eq_some_iff.1 h).2]
  have ht : S.fs.take (j + 1) = S.fs.take j ++ [(k, f)] := by
    rw [List.take_add_one, h]; rfl
  have e : (midS S ps j).fs = (crashD (S.fs.take j) ps).1 ++ (k, f) :: S.fs.drop (j + 1) := by rw [← hd]; rfl
  have hm : (k, f) ∈ (midS S ps j).fs := by rw [e]; simp
  refine ⟨mem_get hr hm, ?_, ?_⟩
  · rw [e] at hr ⊢
    rw [put_mid hr]
    show _ = (crashD (S.fs.take (j + 1)) ps).1 ++ S.fs.drop (j + 1)
    rw [ht, crashD_append]
    simp [crashD, midP]
  · show (crashD (S.fs.take (j + 1)) ps).2 = _
    rw [ht, crashD_append]
    rfl
/-- What a crash does with one file that is named. -/
def crashS (S : Dk) (ps : List Int) : Dk := ⟨(crashD S.fs ps).1, S.room, true, false, S.ahead, S.steps⟩
theorem mid_end (S : Dk) (ps : List Int) (j : Nat) (h : S.fs.length ≤ j) : midS S ps j = { S with fs := (crashD S.fs ps).1 } := by
  unfold midS
  rw [List.take_of_length_le h, List.drop_of_length_le h, List.append_nil]
theorem IntsAt.tail {w : World} {N : Lo} {g o : Nat} {p : Int} {ps : List Int} (h : IntsAt w N (some ⟨g, o, none⟩) (p :: ps)) : w.cell? ⟨g, o, none⟩ = some (.int .i64 p) ∧ IntsAt w N (some ⟨g, o + 1, none⟩) ps := by
  rcases h with h | ⟨g', o', e, h1, h2, h3⟩
  · cases h
  · obtain ⟨rfl, rfl⟩ : g = g' ∧ o = o' := by simpa using e
    refine ⟨h3 0 p rfl, .inr ⟨g, o + 1, rfl, h1, h2, fun i x hi => ?_⟩⟩
    have := h3 (i + 1) x (by simpa using hi)
    rw [show o + 1 + i = o + (i + 1) by omega]
    exact this
theorem file_cell {w : World} {N : Lo} {d b : Nat} {S : Dk} {k : List UInt8} {f : Fl} (h : DiskFile w N d S k b) (hf : get S.fs k = some f) : w.cell? ⟨b, 1, none⟩ = some (.int .i64 (f.firm : Int)) ∧ f.firm ≤ f.bytes.length := by
  obtain ⟨mv, st, A, V, h, hk⟩ := h
  obtain ⟨b0, hb0, hN, hHk, hrk, hfm⟩ := h.files.file k f hf
  obtain rfl : b0 = b := by rw [hb0] at hk; exact Option.some.inj hk
  exact ⟨hHk.at 1 _ rfl, hfm⟩
/-- A file that has nothing to lose; one that has. -/
theorem firm_mid (N : Lo) (d b : Nat) (S : Dk) (ps : List Int) (j : Nat) (k : List UInt8) (f : Fl) (hg : get (midS S ps j).fs k = some f) (hp : put k (crash1 f (midP S ps j)).1 (midS S ps j).fs = (midS S ps (j + 1)).fs) (h0 : f.bytes.length - f.firm = 0) (W : World) (h : DiskFile W N d (midS S ps j) k b) :
    Calls Tryz.prog 71 #[.pointer (some ⟨b, 0, none⟩)] W fun e w' => e = .returned (.tuple #[]) ∧ DiskAt w' N d (midS S ps (j + 1)) ∧ DUpd N W w' := by
  refine (settle_file N d b _ k f W h hg).mono fun e w' ⟨h1, h2, h3⟩ => ⟨h1, ?_, h3⟩
  rw [crash1, if_pos h0] at hp
  have h4 := h2.disk
  rw [hp] at h4
  exact h4
theorem cut_mid (N : Lo) (d b : Nat) (S : Dk) (ps : List Int) (j : Nat) (k : List UInt8) (f : Fl) (m : Nat) (hm : m ≤ f.bytes.length) (hpos : 0 < f.bytes.length) (hfm : f.firm ≤ m) (hg : get (midS S ps j).fs k = some f) (W : World) (h : DiskFile W N d (midS S ps j) k b) :
    Calls Tryz.prog 69 #[.pointer (some ⟨b, 0, none⟩), .int .i64 (m : Int)] W fun e w' => e = .returned (.tuple #[]) ∧ DiskFile w' N d { midS S ps j with fs := put k ⟨f.bytes.take m, f.firm⟩ (midS S ps j).fs } k b ∧ DUpd N W w' :=
  cut_file N d b _ k f m hm hpos hfm W h hg
theorem firm_cut (N : Lo) (d b : Nat) (S : Dk) (ps : List Int) (j : Nat) (k : List UInt8) (f : Fl) (m : Nat) (hm : m = f.firm + staysN ((midP S ps j).headD 0) (f.bytes.length - f.firm)) (hp : put k (crash1 f (midP S ps j)).1 (midS S ps j).fs = (midS S ps (j + 1)).fs) (h0 : ¬ f.bytes.length - f.firm = 0) (W : World)
    (h : DiskFile W N d { midS S ps j with fs := put k ⟨f.bytes.take m, f.firm⟩ (midS S ps j).fs } k b) :
    Calls Tryz.prog 71 #[.pointer (some ⟨b, 0, none⟩)] W fun e w' => e = .returned (.tuple #[]) ∧ DiskAt w' N d (midS S ps (j + 1)) ∧ DUpd N W w' := by
  refine (settle_file N d b _ k ⟨f.bytes.take m, f.firm⟩ W h (by show get (put k _ _) k = _; rw [get_put, if_pos rfl])).mono fun e w' ⟨h1, h2, h3⟩ => ⟨h1, ?_, h3⟩
  rw [crash1, if_neg h0, ← hm] at hp
  have h4 := h2.disk
  have e1 : put k ⟨f.bytes.take m, (f.bytes.take m).length⟩ (put k ⟨f.bytes.take m, f.firm⟩ (midS S ps j).fs) = (midS S ps (j + 1)).fs := by rw [put_put, hp]
  have h5 : DiskAt w' N d { midS S ps j with fs := put k ⟨f.bytes.take m, (f.bytes.take m).length⟩ (put k ⟨f.bytes.take m, f.firm⟩ (midS S ps j).fs) } := h4
  rw [e1] at h5
  exact h5
set_option maxHeartbeats 3200000 in
set_option maxRecDepth 100000 in
theorem crash_some (N : Lo) (d : Nat) (S : Dk) (ps : List Int) (hps : ∀ p ∈ ps, -9223372036854775808 ≤ p ∧ p < 9223372036854775808) (a : Option Addr) (c : Nat) (hc : ps.length ≤ c) (hcm : c ≤ maxLen) (w : World) (h : DiskAt w N d S) (ha : IntsAt w N a ps) :
    Calls Tryz.prog 31 #[.pointer (some ⟨d, 0, none⟩), .slice a ps.length c] w fun e w' => e = .returned (.tuple #[]) ∧ DiskAt w' N d (crashS S ps) ∧ DUpd N w w' := by
  obtain ⟨H, hHs⟩ : ∃ H, w.heap.size = H := ⟨_, rfl⟩
  have HH : Hid (w.heap.size = H) := hHs
  have hnm : Hid (Calls Tryz.prog 67 #[.pointer (some ⟨d, 0, none⟩)] w fun e w' => ∃ a c, e = .returned (.slice a S.fs.length c) ∧ StrsAt w' N a ((S.fs.map Prod.fst).map strL) ∧ Below w.heap.size w w') := by
    refine (names_some N d S w h).mono fun e w' ⟨v, h1, h2, h3⟩ => ?_
    obtain ⟨a', c', rfl, h4⟩ := strs_of_row (N := N) h2 (by simp)
    exact ⟨a', c', h1, h4, h3⟩
  have hfine := h.fine
  have hlen := hfine.len
  have HD : Hid (∀ W, Below w.heap.size w W → DiskAt W N d S) := fun W hW => h.below hW
  have HA : Hid (∀ W, DUpd N w W → IntsAt W N a ps) := fun W hW => ha.dupd hW
  have Hps : Hid (∀ p ∈ ps, -9223372036854775808 ≤ p ∧ p < 9223372036854775808) := hps
  have hkeys : Hid (∀ p ∈ S.fs, p.1.length ≤ 32) := hfine.keys
  obtain ⟨n, hn⟩ : ∃ n, S.fs.length = n := ⟨_, rfl⟩
  have HN : Hid (S.fs.length = n) := hn
  obtain ⟨np, hnp⟩ : ∃ np, ps.length = np := ⟨_, rfl⟩
  have HNP : Hid (ps.length = np) := hnp
  rw [hn] at hnm hlen
  rw [hnp] at hc ⊢
  unfold maxLen at hcm
  clear h ha hps hfine hn hnp hHs
  go_enter Tryz.func31, Tryz.ntmps31
  go_wp2_with (go_at_call 67; refine hnm.out.mono ?_; rintro e w1 ⟨na, nc, rfl, s1, b1⟩; have d1 := HD.out w1 b1; have up1 : DUpd N w w1 := DUpd.ofBelow b1; have i1 := HA.out w1 up1)
  go_loopw [1, 14] (fun v c wr => ∃ (j : Nat) (a' : Option Addr) (n' c' : Nat), j ≤ n ∧ c = .int .i64 (j : Int) ∧ v = .slice a' n' c' ∧ n' ≤ c' ∧ c' ≤ 9223372036854775807 ∧ (midP S ps j).length = n' ∧ IntsAt wr N a' (midP S ps j) ∧ DiskAt wr N d (midS S ps j) ∧ StrsAt wr N na ((S.fs.map Prod.fst).map strL) ∧ DUpd N w wr) (fun _ c _ => n - (intOf c).toNat)
  case atStart => exact ⟨0, a, np, c, by omega, rfl, rfl, hc, by omega, HNP.out, i1, d1, s1, up1⟩
  case round =>
    clear s1 b1 d1 up1 i1
    obtain ⟨j, a', n', c', hj, rfl, rfl, hnc, hcc, hpl, hI, hD, hS, hU⟩ := hrel
    by_cases hlt : j < n
    · obtain ⟨⟨k, f⟩, hkf⟩ : ∃ p, S.fs[j]? = some p := ⟨S.fs[j]'(by have := HN.out; omega), List.getElem?_eq_getElem _⟩
      obtain ⟨hgk, hpm, hpn⟩ := mid_next S ps j k f hkf hD.fine.rise
      have hkl : (strL k).size ≤ 32 := hkeys.out (k, f) (List.mem_of_getElem? hkf)
      have hnk : ((S.fs.map Prod.fst).map strL)[j]? = some (strL k) := by rw [List.getElem?_map, List.getElem?_map, hkf]; rfl
      rcases hS with h0 | ⟨g, o, rfl, hg1, hg2, hcell⟩
      · simp [HN.out] at h0; omega
      have HS : Hid (StrsAt wr N (some ⟨g, o, none⟩) ((S.fs.map Prod.fst).map strL)) := .inr ⟨g, o, rfl, hg1, hg2, hcell⟩
      have ck := hcell j _ hnk
      obtain ⟨mv, b, c0, hlk, hDF⟩ := hD.file (strL k) hkl f hgk
      have hfc := file_cell hDF hgk
      have hub : f.bytes.length ≤ 16777216 := by have := used_le_mem hgk; have := hD.fine.used; omega
      have hlo : Hid (Calls Tryz.prog 68 #[.pointer (some ⟨b, 0, none⟩)] wr fun e w' => e = .returned (.int .i64 ((f.bytes.length - f.firm : Nat) : Int)) ∧ w'.heap = wr.heap ∧ Below wr.heap.size wr w') := loose_file N d b _ k f wr hDF hgk
      have HDF : Hid (∀ W : World, W.heap = wr.heap → DiskFile W N d (midS S ps j) k b) := fun W hW => hDF.keep (fun i _ => by rw [hW])
      have HU2 : Hid (∀ W, DUpd N wr W → StrsAt W N (some ⟨g, o, none⟩) ((S.fs.map Prod.fst).map strL) ∧ DUpd N w W) := fun W hW => ⟨HS.out.dupd hW, hU.trans hW⟩
      have HI : Hid (∀ W, DUpd N wr W → IntsAt W N a' (midP S ps j)) := fun W hW => hI.dupd hW
      obtain ⟨hf1, hfm⟩ := hfc
      have HF1 : Hid (∀ W : World, W.heap = wr.heap → W.cell? ⟨b, 1, none⟩ = some (.int .i64 (f.firm : Int))) := fun W hW => (World.cell?_of_block (by rw [hW])).trans hf1
      have hrange : Hid (-9223372036854775808 ≤ (midP S ps j).headD 0 ∧ (midP S ps j).headD 0 < 9223372036854775808) := by
        have := crashD_range (fun p => -9223372036854775808 ≤ p ∧ p < 9223372036854775808) (S.fs.take j) ps Hps.out
        show _ ∧ _
        cases hh : midP S ps j with
        | nil => exact ⟨by simp, by simp⟩
        | cons p r => exact this p (by show p ∈ midP S ps j; rw [hh]; exact List.mem_cons_self ..)
      by_cases h0 : f.bytes.length - f.firm = 0
      · have hst : Hid (∀ W, DiskFile W N d (midS S ps j) k b → Calls Tryz.prog 71 #[.pointer (some ⟨b, 0, none⟩)] W fun e w' => e = .returned (.tuple #[]) ∧ DiskAt w' N d (midS S ps (j + 1)) ∧ DUpd N W w') := fun W hW => firm_mid N d b S ps j k f hgk hpm h0 W hW
        have hpe : midP S ps (j + 1) = midP S ps j := by rw [hpn, crash1, if_pos h0]
        have HPE : Hid (midP S ps (j + 1) = midP S ps j) := hpe
        rw [h0] at hlo
        clear hcell hg1 hg2 hDF hD hI hf1 hgk hpm hpn hkf hnk hpe hkl
        go_wp2_with (first
          | (go_at_call 68; refine hlo.out.mono ?_; rintro e w2 ⟨rfl, hh2, b2⟩; have f2 := HDF.out w2 hh2; have up2 : DUpd N wr w2 := DUpd.ofBelow b2)
          | (go_at_call 71; refine (hst.out _ f2).mono ?_; rintro e w3 ⟨rfl, d3, up3⟩))
        obtain ⟨q1, q2⟩ := HU2.out w3 (up2.trans up3)
        exact ⟨⟨j + 1, a', n', c', by omega, rfl, rfl, hnc, hcc, by rw [HPE.out]; exact hpl, by rw [HPE.out]; exact HI.out w3 (up2.trans up3), d3, q1, q2⟩, by simp; omega⟩
      · obtain ⟨L, hL⟩ : ∃ L, f.bytes.length - f.firm = L := ⟨_, rfl⟩
        have hLl : L ≤ 16777216 := by omega
        have hL0 : (0 : Int) < (L : Int) := by omega
        have hsl := staysN_le ((midP S ps j).headD 0) L
        obtain ⟨m, hm⟩ : ∃ m, f.firm + staysN ((midP S ps j).headD 0) L = m := ⟨_, rfl⟩
        have hcut : Hid (∀ W, DiskFile W N d (midS S ps j) k b → Calls Tryz.prog 69 #[.pointer (some ⟨b, 0, none⟩), .int .i64 (m : Int)] W fun e w' => e = .returned (.tuple #[]) ∧ DiskFile w' N d { midS S ps j with fs := put k ⟨f.bytes.take m, f.firm⟩ (midS S ps j).fs } k b ∧ DUpd N W w') := fun W hW => cut_mid N d b S ps j k f m (by omega) (by omega) (by omega) hgk W hW
        have hst : Hid (∀ W, DiskFile W N d { midS S ps j with fs := put k ⟨f.bytes.take m, f.firm⟩ (midS S ps j).fs } k b → Calls Tryz.prog 71 #[.pointer (some ⟨b, 0, none⟩)] W fun e w' => e = .returned (.tuple #[]) ∧ DiskAt w' N d (midS S ps (j + 1)) ∧ DUpd N W w') := fun W hW => firm_cut N d b S ps j k f m (by rw [← hm, hL]) hpm h0 W hW
        have HPE : Hid (midP S ps (j + 1) = (midP S ps j).tail) := by show _ = _; rw [hpn, crash1, if_neg h0]
        have hsta : Hid (∀ W, Calls Tryz.prog 70 #[.int .i64 ((midP S ps j).headD 0), .int .i64 (L : Int)] W fun e w' => e = .returned (.int .i64 (staysN ((midP S ps j).headD 0) L : Int)) ∧ w' = W) := fun W => stays_any _ hrange.out L hLl W
        have hsum : (f.firm : Int) + (staysN ((midP S ps j).headD 0) L : Int) = (m : Int) := by omega
        have hwm : IntKind.i64.wrap (m : Int) = (m : Int) := by rw [wrap_i64]; omega
        rw [hL] at hlo
        generalize staysN ((midP S ps j).headD 0) L = stn at *
        rcases hmp : midP S ps j with _ | ⟨pk, rest⟩
        · rw [hmp] at hpl
          have hn0 : n' = 0 := by rw [← hpl]; rfl
          subst hn0
          have HMT : Hid ((midP S ps j).tail = []) := by show _ = _; rw [hmp]; rfl
          rw [hmp] at hsta
          have hsta : Hid (∀ W, Calls Tryz.prog 70 #[.int .i64 0, .int .i64 (L : Int)] W fun e w' => e = .returned (.int .i64 (stn : Int)) ∧ w' = W) := hsta
          clear hcell hg1 hg2 hDF hD hI hf1 hgk hpm hpn hkf hnk hkl hpl hmp hm hL h0 hsl
          go_wp2_with (first
            | (go_at_call 68; refine hlo.out.mono ?_; rintro e w2 ⟨rfl, hh2, b2⟩; have f2 : Hid (DiskFile w2.drew N d (midS S ps j) k b) := HDF.out w2.drew hh2; have up2 : DUpd N wr w2 := DUpd.ofBelow b2; have cf := HF1.out w2 hh2; clear hh2))
          go_region_with (first
            | (go_at_call 70; refine (hsta.out _).mono ?_; rintro e w3 ⟨rfl, rfl⟩)
            | (go_at_call 69; refine (hcut.out _ f2.out).mono ?_; rintro e w4 ⟨rfl, f4, up4⟩))
          all_goals
            go_wp2_with (go_at_call 71; refine (hst.out _ f4).mono ?_; rintro e w5 ⟨rfl, d5, up5⟩)
            have up : DUpd N wr w5 := (up2.drew.trans up4).trans up5
            obtain ⟨q1, q2⟩ := HU2.out w5 up
            exact ⟨⟨j + 1, a', 0, c', by omega, rfl, rfl, hnc, hcc, by rw [HPE.out, HMT.out]; rfl, by rw [HPE.out, HMT.out]; exact .inl rfl, d5, q1, q2⟩, by simp; omega⟩
        · rw [hmp] at hpl hI
          have hMP : Hid (midP S ps j = pk :: rest) := hmp
          rcases hI with hI | ⟨gp, op, rfl, hgp1, hgp2, hgp3⟩
          · cases hI
          have HI2 : Hid (∀ W, DUpd N wr W → W.cell? ⟨gp, op, none⟩ = some (.int .i64 pk) ∧ IntsAt W N (some ⟨gp, op + 1, none⟩) rest) := fun W hW => by
            have h1 : IntsAt W N (some ⟨gp, op, none⟩) (pk :: rest) := by rw [← hMP.out]; exact HI.out W hW
            exact h1.tail
          rw [hmp] at hsta
          have hsta : Hid (∀ W, Calls Tryz.prog 70 #[.int .i64 pk, .int .i64 (L : Int)] W fun e w' => e = .returned (.int .i64 (stn : Int)) ∧ w' = W) := hsta
          obtain ⟨r, hr⟩ : ∃ r, rest.length = r := ⟨_, rfl⟩
          have Hr : Hid (rest.length = r) := hr
          have hnr : n' = r + 1 := by rw [← hpl, List.length_cons, hr]
          subst hnr
          have HMT : Hid ((midP S ps j).tail = rest) := by show _ = _; rw [hMP.out]; rfl
          have HAX : Hid (∀ W, DUpd N wr W → IntsAt W N (if c' = 1 then some ⟨gp, op, none⟩ else some ⟨gp, op + 1, none⟩) rest) := fun W hW => by
            by_cases hc1 : c' = 1
            · exact .inl (by omega)
            · rw [if_neg hc1]
              exact (HI2.out W hW).2
          have hnp1 : (0 : Int) < ((r + 1 : Nat) : Int) := by omega
          have hnp2 : (1 : Int) ≤ ((r + 1 : Nat) : Int) := by omega
          clear hcell hg1 hg2 hDF hD hf1 hgk hpm hpn hkf hnk hkl hpl hmp hm hL h0 hsl hr hgp1 hgp2 hgp3
          by_cases hc1 : c' = 1
          · have hr0 : r = 0 := by omega
            subst hr0 hc1
            go_wp2_with (first
              | (go_at_call 68; refine hlo.out.mono ?_; rintro e w2 ⟨rfl, hh2, b2⟩; have f2 : Hid (DiskFile w2.drew.drew N d (midS S ps j) k b) := HDF.out w2.drew.drew hh2; have up2 : DUpd N wr w2 := DUpd.ofBelow b2; have cf := HF1.out w2 hh2; have cp := (HI2.out w2 up2).1; clear hh2))
            go_region
            go_wp2_with fail
            go_region_with (first
              | (go_at_call 70; refine (hsta.out _).mono ?_; rintro e w3 ⟨rfl, rfl⟩)
              | (go_at_call 69; refine (hcut.out _ f2.out).mono ?_; rintro e w4 ⟨rfl, f4, up4⟩))
            all_goals
              go_wp2_with (go_at_call 71; refine (hst.out _ f4).mono ?_; rintro e w5 ⟨rfl, d5, up5⟩)
              have up : DUpd N wr w5 := (up2.drew.drew.trans up4).trans up5
              obtain ⟨q1, q2⟩ := HU2.out w5 up
              exact ⟨⟨j + 1, _, 0, 0, by omega, rfl, rfl, by omega, by omega, by rw [HPE.out, HMT.out]; exact Hr.out, by rw [HPE.out, HMT.out]; exact .inl Hr.out, d5, q1, q2⟩, by simp; omega⟩
          · go_wp2_with (first
              | (go_at_call 68; refine hlo.out.mono ?_; rintro e w2 ⟨rfl, hh2, b2⟩; have f2 : Hid (DiskFile w2.drew.drew N d (midS S ps j) k b) := HDF.out w2.drew.drew hh2; have up2 : DUpd N wr w2 := DUpd.ofBelow b2; have cf := HF1.out w2 hh2; have cp := (HI2.out w2 up2).1; clear hh2))
            go_region
            go_wp2_with fail
            go_region_with (first
              | (go_at_call 70; refine (hsta.out _).mono ?_; rintro e w3 ⟨rfl, rfl⟩)
              | (go_at_call 69; refine (hcut.out _ f2.out).mono ?_; rintro e w4 ⟨rfl, f4, up4⟩))
            all_goals
              go_wp2_with (go_at_call 71; refine (hst.out _ f4).mono ?_; rintro e w5 ⟨rfl, d5, up5⟩)
              have up : DUpd N wr w5 := (up2.drew.drew.trans up4).trans up5
              obtain ⟨q1, q2⟩ := HU2.out w5 up
              exact ⟨⟨j + 1, _, r, c' - 1, by omega, rfl, rfl, by omega, by omega, by rw [HPE.out, HMT.out]; exact Hr.out, by rw [HPE.out, HMT.out]; exact (HI2.out w5 up).2, d5, q1, q2⟩, by simp; omega⟩
    · have hje : j = n := by omega
      subst hje
      have hE := mid_end S ps j (by rw [HN.out]; exact Nat.le_refl _)
      rw [hE] at hD
      obtain ⟨mv, st, A, V, ho⟩ := hD.open
      obtain ⟨⟨p1, p2, p3⟩, _, q1⟩ := disk_set (T := { S with fs := (crashD S.fs ps).1, on := true }) (su := st) ho.holds ho.le ho.map ho.files (ho.fine.of rfl ho.fine.room ho.fine.ahead) rfl 3 (.bool true) rfl
      obtain ⟨_, k1, k2⟩ := disk_set (T := crashS S ps) (su := st) p1 ho.le p2 p3 (ho.fine.of rfl ho.fine.room ho.fine.ahead) rfl 4 (.bool false) rfl
      have K1 : Hid (DiskAt ((wr.setCell ⟨d, 3, none⟩ (.bool true)).setCell ⟨d, 4, none⟩ (.bool false)) N d (crashS S ps)) := k1
      have K2 : Hid (DUpd N w ((wr.setCell ⟨d, 3, none⟩ (.bool true)).setCell ⟨d, 4, none⟩ (.bool false))) := (hU.trans q1).trans k2
      have c3 := ho.holds.at 3 _ rfl
      have c4 := ho.holds.at 4 _ rfl
      have f3 := ho.holds.frozen 3
      have f4 := ho.holds.frozen 4
      clear k1 k2 p1 p2 p3 q1 ho hD hI hS hU hE
      go_wp2
      go_end0
      exact ⟨rfl, K1.out, K2.out⟩
end Go.Proofs.YtfmmholkeadejaaGreatDoor
