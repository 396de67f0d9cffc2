/- The statement's walk, whole. -/
import Derived.Test.YthaknjbcmflegaaPlays
namespace Go.Proofs.Ythaknjbcmflegaa
open Go.RowKit Go.Maps Go.WideMaps

set_option maxHeartbeats 6400000 in
set_option maxRecDepth 100000 in
theorem filesPlays_walk (room : Int) (os : List Cl) (hos : ∀ o ∈ os, o.Ok) (hl : os.length < 9223372036854775808) (a : Option Addr) (c : Nat) (w : World) (ha : ScriptAt w w.heap.size a os) :
    Calls Try.prog 3 #[.int .i64 room, .slice a os.length c] w fun e w' => e = .returned (.bool true) ∧ Below w.heap.size w w' := by
  obtain ⟨N, hN⟩ : ∃ N, w.heap.size = N := ⟨_, rfl⟩
  rw [hN] at ha ⊢
  have kaw : Hid (Calls Try.prog 4 #[] w fun e w' => e = .returned (.bool true) ∧ Below N w w') := by
    have := awake_any w
    rw [hN] at this; exact this
  have knew : Hid (∀ W, Below N w W → Calls Try.prog 5 #[.int .i64 room] W fun e w' => ∃ d, e = .returned (.pointer (some ⟨d, 0, none⟩)) ∧ DiskAt w' N d (newS room) ∧ Below N w w') := fun W hW =>
    (new_any N room W (by have := hW.size; omega)).mono fun e w' ⟨h1, h2, h3⟩ => ⟨_, h1, h2, hW.trans (h3.below (by have := hW.size; omega))⟩
  have krnew : Hid (∀ W d, DiskAt W N d (newS room) → Below N w W → Calls Try.prog 6 #[.int .i64 room] W fun e w' => ∃ r, e = .returned (.pointer (some ⟨r, 0, none⟩)) ∧ Pair w' N d r (newS room) ∧ Below N w w') := fun W d hD hW =>
    (rnew_any N room W (by have := hW.size; omega)).mono fun e w' ⟨h1, h2, h3⟩ => ⟨_, h1, ⟨hD.rupd h3, h2⟩, hW.trans (h3.below (by have := hW.size; omega))⟩
  have kcr : Hid (∀ W d r S, Pair W N d r S → Below N w W → Calls Try.prog 12 #[.pointer (some ⟨d, 0, none⟩), .slice none 0 0] W fun e w' => e = .returned (.tuple #[]) ∧ DiskAt w' N d (crashS S []) ∧ RefAt w' N r S ∧ Below N w w') := fun W d r S hP hW =>
    (crash_some N d S [] (by simp) none 0 (Nat.le_refl _) (Nat.zero_le _) W hP.disk (.inl rfl)).mono fun e w' ⟨h1, h2, h3⟩ => ⟨h1, h2, hP.ref.dupd h3, hW.trans (h3.below hP.le)⟩
  have krcr : Hid (∀ W d r S, DiskAt W N d (crashS S []) → RefAt W N r S → Below N w W → Calls Try.prog 13 #[.pointer (some ⟨r, 0, none⟩), .slice none 0 0] W fun e w' => e = .returned (.tuple #[]) ∧ Pair w' N d r (crashS S []) ∧ Below N w w') := fun W d r S hD hR hW =>
    (rcrash_some N r S [] (by simp) none 0 (by simp) W hR (.inl rfl)).mono fun e w' ⟨h1, h2, h3⟩ => ⟨h1, ⟨hD.rupd h3, h2⟩, hW.trans (h3.below (by have := hR.lt; omega))⟩
  have kli : Hid (∀ W d r S, Pair W N d r S → Below N w W → Calls Try.prog 14 #[.pointer (some ⟨d, 0, none⟩), .string ⟨#[]⟩] W fun e w' => ∃ la lc, e = .returned (.slice la (listE S ⟨#[]⟩).length lc) ∧ TextsAt w' la (listE S ⟨#[]⟩) ∧ Pair w' N d r S ∧ Below N w w') := fun W d r S hP hW =>
    (list_both N d S ⟨#[]⟩ W hP.disk).mono fun e w' ⟨x, y, h1, h2, h3⟩ => ⟨x, y, h1, h2, hP.below h3, hW.trans (h3.mono hP.le)⟩
  have krli : Hid (∀ W d r S la, Pair W N d r S → TextsAt W la (listE S ⟨#[]⟩) → Below N w W → Calls Try.prog 16 #[.pointer (some ⟨r, 0, none⟩), .string ⟨#[]⟩] W fun e w' => ∃ ra rc, e = .returned (.slice ra (listE S ⟨#[]⟩).length rc) ∧ TextsAt w' la (listE S ⟨#[]⟩) ∧ TextsAt w' ra (listE S ⟨#[]⟩) ∧ Pair w' N d r S ∧ Below N w w') := fun W d r S la hP ht hW =>
    (rlist_both N r S ⟨#[]⟩ W hP.ref).mono fun e w' ⟨x, y, h1, h2, h3⟩ => ⟨x, y, h1, fun i z hz => by
      obtain ⟨g, o, e, hc⟩ := ht i z hz
      exact ⟨g, o, e, (h3.cell (cell_lt hc)).trans hc⟩, h2, hP.below h3, hW.trans (h3.mono hP.le)⟩
  have ksa : Hid (∀ W d r S la ra lc rc, Pair W N d r S → TextsAt W la (listE S ⟨#[]⟩) → TextsAt W ra (listE S ⟨#[]⟩) → Below N w W → Calls Try.prog 15 #[.slice la (listE S ⟨#[]⟩).length lc, .slice ra (listE S ⟨#[]⟩).length rc] W fun e w' => e = .returned (.bool true) ∧ TextsAt w' la (listE S ⟨#[]⟩) ∧ Pair w' N d r S ∧ Below N w w') := fun W d r S la ra lc rc hP h1 h2 hW =>
    (same_any _ (by have := list_len S ⟨#[]⟩; have := hP.ref.good.len; omega) la ra lc rc W h1 h2).mono fun e w' ⟨j1, j2⟩ => ⟨j1, fun i z hz => by
      obtain ⟨g, o, e, hc⟩ := h1 i z hz
      exact ⟨g, o, e, (j2.cell (cell_lt hc)).trans hc⟩, hP.below j2, hW.trans (j2.mono hP.le)⟩
  have krd : Hid (∀ W d r S s, s.size < 9223372036854775808 → Pair W N d r S → Below N w W → Calls Try.prog 17 #[.pointer (some ⟨d, 0, none⟩), .string s] W fun e w' => e = .returned (.tuple #[.string (readV S s), .int .i64 (foundE S s)]) ∧ Pair w' N d r S ∧ Below N w w' ∧ Below W.heap.size W w') := fun W d r S s hs hP hW =>
    (read_some N d S s hs W hP.disk).mono fun e w' ⟨h1, h2⟩ => ⟨h1, hP.below h2, hW.trans (h2.mono hP.le), h2⟩
  have krrd : Hid (∀ W d r S s, s.size < 9223372036854775808 → Pair W N d r S → Below N w W → Calls Try.prog 18 #[.pointer (some ⟨r, 0, none⟩), .string s] W fun e w' => e = .returned (.tuple #[.string (readV S s), .int .i64 (foundE S s)]) ∧ Pair w' N d r S ∧ Below N w w' ∧ Below W.heap.size W w') := fun W d r S s hs hP hW =>
    (rread_some N r S s hs W hP.ref).mono fun e w' ⟨h1, h2⟩ => ⟨h1, hP.below h2, hW.trans (h2.mono hP.le), h2⟩
  have kon : Hid (∀ W d r S, Pair W N d r S → Calls Try.prog 8 #[.pointer (some ⟨d, 0, none⟩)] W fun e w' => e = .returned (.bool S.on) ∧ w' = W) := fun W d r S hP => on_some N d S W hP.disk
  have kus : Hid (∀ W d r S, Pair W N d r S → Below N w W → Calls Try.prog 9 #[.pointer (some ⟨d, 0, none⟩)] W fun e w' => e = .returned (.int .i64 (used S.fs : Int)) ∧ Pair w' N d r S ∧ Below N w w') := fun W d r S hP hW =>
    (used_some N d S W hP.disk).mono fun e w' ⟨h1, h2⟩ => ⟨h1, hP.below h2, hW.trans (h2.mono hP.le)⟩
  have krus : Hid (∀ W d r S, Pair W N d r S → Calls Try.prog 10 #[.pointer (some ⟨r, 0, none⟩)] W fun e w' => e = .returned (.int .i64 (used S.fs : Int)) ∧ w' = W) := fun W d r S hP => rused_some N r S W hP.ref
  have kst : Hid (∀ W d r S, Pair W N d r S → Calls Try.prog 11 #[.pointer (some ⟨d, 0, none⟩)] W fun e w' => e = .returned (.int .i64 S.steps) ∧ w' = W) := fun W d r S hP => steps_some N d S W hP.disk
  have kce : Hid (∀ W d r S, Pair W N d r S → W.cell? ⟨r, 3, none⟩ = some (.bool (!S.on)) ∧ W.cell? ⟨r, 4, none⟩ = some (.int .i64 S.steps)) := fun W d r S hP => by
    obtain ⟨v, q1, _⟩ := hP.ref
    exact ⟨q1.at 3 _ rfl, q1.at 4 _ rfl⟩
  have kdo : Hid (∀ W d r S o na pa ka nc pc kc, o.Ok → Pair W N d r S → ClAt W N o na pa ka kc → S.fs.length < 256 → Calls Try.prog 7 #[.pointer (some ⟨d, 0, none⟩), .pointer (some ⟨r, 0, none⟩), .agg #[.int .i64 o.kind, .int .i64 o.num, .slice na o.names.length nc, .slice pa o.parts.length pc, .slice ka o.picks.length kc]] W fun e w' => e = .returned (.bool true) ∧ Left W w' N d r S) := fun W d r S o na pa ka nc pc kc ho hP hC hlen => does_any N d r S o ho na pa ka nc pc kc W hP hC hlen
  have HA : Hid (∀ W, Below N w W → ScriptAt W N a os) := fun W hW => ha.below hW
  have HOS : Hid (∀ o ∈ os, o.Ok) := hos
  obtain ⟨m, hm⟩ : ∃ m, os.length = m := ⟨_, rfl⟩
  have M : Hid (os.length = m) := hm
  rw [hm] at hl ⊢
  have HN : Hid (w.heap.size = N) := hN
  clear ha hm hos hN
  go_enter Try.func3, Try.ntmps3
  go_wp2_with (first
    | (go_at_call 6; refine (krnew.out _ _ d3 b3).mono ?_; rintro e w4 ⟨r, rfl, p4, b4⟩)
    | (go_at_call 5; refine (knew.out _ b2).mono ?_; rintro e w3 ⟨d, rfl, d3, b3⟩)
    | (go_at_call 4; refine kaw.out.mono ?_; rintro e w2 ⟨rfl, b2⟩))
  have P4 : Hid (Pair w4 N d r (newS room)) := p4
  clear p4 d3 b2 b3 kaw knew krnew
  go_loopw [8] (fun c wr => ∃ (k : Nat) (S : Dk), k ≤ m ∧ k ≤ 120 ∧ c = .int .i64 (k : Int) ∧ Hid (Pair wr N d r S) ∧ S.fs.length ≤ k ∧ Below N w wr) (fun c _ => 121 - (intOf c).toNat)
  case atStart => exact ⟨0, newS room, by omega, by omega, rfl, P4, Nat.le_refl _, b4⟩
  case round =>
    obtain ⟨k, S, hk, hk2, rfl, hP, hlen, hB⟩ := hrel
    by_cases hlt : k < m ∧ k < 120
    · obtain ⟨hlt, hlt2⟩ := hlt
      obtain ⟨o, hoo⟩ : ∃ o, os[k]? = some o := ⟨os[k]'(by have := M.out; omega), List.getElem?_eq_getElem _⟩
      have hok := HOS.out o (List.mem_of_getElem? hoo)
      obtain ⟨g, off, rfl, na, pa, ka, nc, pc, kc, hcells, hcl⟩ : ∃ g off, a = some ⟨g, off, none⟩ ∧ ∃ na pa ka nc pc kc, (∀ (j : Nat) (u : Value), (clV o na pa ka nc pc kc)[j]? = some u → wr.cell? ⟨g, off + k * 5 + j, none⟩ = some u) ∧ ClAt wr N o na pa ka kc := by
        rcases HA.out wr hB with h0 | ⟨g, off, e, _, hc⟩
        · have := M.out; omega
        · exact ⟨g, off, e, hc k o hoo⟩
      have z0 := hcells 0 _ rfl
      have z1 := hcells 1 _ rfl
      have z2 := hcells 2 _ rfl
      have z3 := hcells 3 _ rfl
      have z4 := hcells 4 _ rfl
      simp only [Nat.add_zero] at z0
      have kdo' : Hid (Calls Try.prog 7 #[.pointer (some ⟨d, 0, none⟩), .pointer (some ⟨r, 0, none⟩), .agg #[.int .i64 o.kind, .int .i64 o.num, .slice na o.names.length nc, .slice pa o.parts.length pc, .slice ka o.picks.length kc]] wr fun e w' => e = .returned (.bool true) ∧ Left wr w' N d r S) := kdo.out wr d r S o na pa ka nc pc kc hok hP.out hcl (by omega)
      have g1 : (k : Int) < (m : Int) := by omega
      have g2 : (k : Int) < 120 := by omega
      clear hcells hcl hok hoo kdo HA HOS
      go_wp2_with (first
        | (go_at_call 7; refine kdo'.out.mono ?_; rintro e w5 ⟨rfl, ⟨⟨S5, p5, hl5⟩, b5⟩⟩))
      have B5 : Below N w w5 := hB.trans b5
      have p5d : Pair w5.drew N d r S5 := p5.below (Below.drew (Below.refl _ _))
      obtain ⟨c3, c4⟩ := kce.out _ _ _ _ p5d
      have K8 : Hid (Calls Try.prog 8 #[.pointer (some ⟨d, 0, none⟩)] w5.drew fun e w' => e = .returned (.bool S5.on) ∧ w' = w5.drew) := kon.out _ _ _ _ p5d
      have K9 : Hid (Calls Try.prog 9 #[.pointer (some ⟨d, 0, none⟩)] w5.drew fun e w' => e = .returned (.int .i64 (used S5.fs : Int)) ∧ Pair w' N d r S5 ∧ Below N w w') := kus.out _ _ _ _ p5d B5.drew
      have K10 : Hid (∀ W, Pair W N d r S5 → Calls Try.prog 10 #[.pointer (some ⟨r, 0, none⟩)] W fun e w' => e = .returned (.int .i64 (used S5.fs : Int)) ∧ w' = W) := fun W hW => krus.out W d r S5 hW
      have K11 : Hid (∀ W, Pair W N d r S5 → Calls Try.prog 11 #[.pointer (some ⟨d, 0, none⟩)] W fun e w' => e = .returned (.int .i64 S5.steps) ∧ w' = W) := fun W hW => kst.out W d r S5 hW
      have KC : Hid (∀ W, Pair W N d r S5 → W.cell? ⟨r, 4, none⟩ = some (.int .i64 S5.steps)) := fun W hW => (kce.out W d r S5 hW).2
      have hl6 : S5.fs.length ≤ k + 1 := by omega
      generalize used S5.fs = U at *
      have e0 : ((U : Int) == (U : Int)) = true := by simp
      have e1 : ((U : Int) != (U : Int)) = false := by simp
      generalize S5.steps = ST at *
      have e2 : (ST == ST) = true := by simp
      have e3 : (ST != ST) = false := by simp
      clear kon kus krus kst kce hl5 hlen z0 z1 z2 z3 z4 kdo' hP p5d kcr krcr kli krli ksa krd krrd
      generalize S5.on = on at *
      have e4 : (on == !on) = false := by cases on <;> rfl
      go_region_with (first
        | (go_at_call 11; refine (K11.out _ p6).mono ?_; rintro e w7 ⟨rfl, e7⟩; subst e7)
        | (go_at_call 10; refine (K10.out _ p6).mono ?_; rintro e w7 ⟨rfl, e7⟩; subst e7)
        | (go_at_call 9; refine K9.out.mono ?_; rintro e w6 ⟨rfl, p6, b6⟩; have c6 := KC.out _ p6)
        | (go_at_call 8; refine K8.out.mono ?_; rintro e w7 ⟨rfl, e7⟩; subst e7))
      all_goals
        go_wp2
        exact ⟨⟨k + 1, S5, by omega, by omega, rfl, p6, hl6, b6⟩, by simp; omega⟩
    · have kns : Hid (∀ W S x, Pair W N d r S → x ∈ listE S ⟨#[]⟩ → (strL x).size < 9223372036854775808) := fun W S x hW hx => by
        have hx2 : x ∈ S.fs.map Prod.fst := by
          unfold listE at hx
          split at hx
          · exact (List.mem_filter.1 hx).1
          · cases hx
        obtain ⟨p, hp, rfl⟩ := List.mem_map.1 hx2
        have := hW.ref.good.keys p hp
        show p.1.length < _
        omega
      have kll : Hid (∀ W S, Pair W N d r S → (listE S ⟨#[]⟩).length ≤ 256) := fun W S hW => by
        have := list_len S ⟨#[]⟩; have := hW.ref.good.len; omega
      clear kdo kon kus krus kst kce HA HOS P4 b4
      have kcr' : Hid (Calls Try.prog 12 #[.pointer (some ⟨d, 0, none⟩), .slice none 0 0] wr fun e w' => e = .returned (.tuple #[]) ∧ DiskAt w' N d (crashS S []) ∧ RefAt w' N r S ∧ Below N w w') := kcr.out wr d r S hP.out hB
      have krcr' : Hid (∀ W, DiskAt W N d (crashS S []) → RefAt W N r S → Below N w W → Calls Try.prog 13 #[.pointer (some ⟨r, 0, none⟩), .slice none 0 0] W fun e w' => e = .returned (.tuple #[]) ∧ Pair w' N d r (crashS S []) ∧ Below N w w') := fun W h1 h2 h3 => krcr.out W d r S h1 h2 h3
      clear kcr krcr hP hlen
      generalize crashS S [] = T at *
      obtain ⟨L, hL⟩ : ∃ L, listE T ⟨#[]⟩ = L := ⟨_, rfl⟩
      have k14 : Hid (∀ W, Pair W N d r T → Below N w W → Calls Try.prog 14 #[.pointer (some ⟨d, 0, none⟩), .string ⟨#[]⟩] W fun e w' => ∃ la lc, e = .returned (.slice la L.length lc) ∧ TextsAt w' la L ∧ Pair w' N d r T ∧ Below N w w') := fun W h1 h2 => by
        have := kli.out W d r T h1 h2
        rw [hL] at this; exact this
      have k16 : Hid (∀ W la, Pair W N d r T → TextsAt W la L → Below N w W → Calls Try.prog 16 #[.pointer (some ⟨r, 0, none⟩), .string ⟨#[]⟩] W fun e w' => ∃ ra rc, e = .returned (.slice ra L.length rc) ∧ TextsAt w' la L ∧ TextsAt w' ra L ∧ Pair w' N d r T ∧ Below N w w') := fun W la h1 h2 h3 => by
        have := krli.out W d r T la h1 (by rw [hL]; exact h2) h3
        rw [hL] at this; exact this
      have k15 : Hid (∀ W la ra lc rc, Pair W N d r T → TextsAt W la L → TextsAt W ra L → Below N w W → Calls Try.prog 15 #[.slice la L.length lc, .slice ra L.length rc] W fun e w' => e = .returned (.bool true) ∧ TextsAt w' la L ∧ Pair w' N d r T ∧ Below N w w') := fun W la ra lc rc h1 h2 h3 h4 => by
        have := ksa.out W d r T la ra lc rc h1 (by rw [hL]; exact h2) (by rw [hL]; exact h3) h4
        rw [hL] at this; exact this
      have kn2 : Hid (∀ W x, Pair W N d r T → x ∈ L → (strL x).size < 9223372036854775808) := fun W x h1 h2 => kns.out W T x h1 (by rw [hL]; exact h2)
      have kl2 : Hid (∀ W, Pair W N d r T → L.length ≤ 256) := fun W h1 => by
        have := kll.out W T h1
        rw [hL] at this; exact this
      clear kli krli ksa kns kll hL
      obtain ⟨n, hn⟩ : ∃ n, L.length = n := ⟨_, rfl⟩
      have NL : Hid (L.length = n) := hn
      rw [hn] at k14 k16 k15 kl2
      clear hn
      by_cases hkm : k < m
      · have hk120 : ¬ (k : Int) < 120 := by omega
        go_wp2_with (first
          | (go_at_call 15; refine (k15.out _ _ _ _ _ p8 t8 t8' b8).mono ?_; rintro e w9 ⟨rfl, t9, p9, b9⟩)
          | (go_at_call 16; refine (k16.out _ _ p7 t7 b7).mono ?_; rintro e w8 ⟨ra, rc, rfl, t8, t8', p8, b8⟩)
          | (go_at_call 14; refine (k14.out _ p6 b6).mono ?_; rintro e w7 ⟨la, lc, rfl, t7, p7, b7⟩)
          | (go_at_call 13; refine (krcr'.out _ d5 r5 b5).mono ?_; rintro e w6 ⟨rfl, p6, b6⟩)
          | (go_at_call 12; refine kcr'.out.mono ?_; rintro e w5 ⟨rfl, d5, r5, b5⟩))
        have hnl := kl2.out _ p9
        have P9 : Hid (Pair w9 N d r T) := p9
        have T9 : Hid (TextsAt w9 la L) := t9
        clear p6 p7 p8 p9 t7 t8 t8' t9 d5 r5 b5 b6 b7 b8 k14 k15 k16 krcr' kcr'
        go_loopw [12] (fun c wr => ∃ j : Nat, j ≤ n ∧ c = .int .i64 (j : Int) ∧ Hid (Pair wr N d r T) ∧ Hid (TextsAt wr la L) ∧ Below N w wr) (fun c _ => n - (intOf c).toNat)
        case atStart => exact ⟨0, by omega, rfl, P9, T9, b9⟩
        case round =>
          obtain ⟨j, hj, rfl, hPj, hTj, hBj⟩ := hrel
          by_cases hjn : j < n
          · obtain ⟨x, hx⟩ : ∃ x, L[j]? = some x := ⟨L[j]'(by have := NL.out; omega), List.getElem?_eq_getElem _⟩
            obtain ⟨g, off, rfl, cx⟩ := hTj.out j x hx
            have hsx := kn2.out _ x hPj.out (List.mem_of_getElem? hx)
            have K17 : Hid (Calls Try.prog 17 #[.pointer (some ⟨d, 0, none⟩), .string (strL x)] wr fun e w' => e = .returned (.tuple #[.string (readV T (strL x)), .int .i64 (foundE T (strL x))]) ∧ Pair w' N d r T ∧ Below N w w' ∧ Below wr.heap.size wr w') := krd.out wr d r T (strL x) hsx hPj.out hBj
            have K18 : Hid (∀ W, Pair W N d r T → Below N w W → Calls Try.prog 18 #[.pointer (some ⟨r, 0, none⟩), .string (strL x)] W fun e w' => e = .returned (.tuple #[.string (readV T (strL x)), .int .i64 (foundE T (strL x))]) ∧ Pair w' N d r T ∧ Below N w w' ∧ Below W.heap.size W w') := fun W h1 h2 => krrd.out W d r T (strL x) hsx h1 h2
            have KX : Hid (∀ W, Below wr.heap.size wr W → W.cell? ⟨g, off + j, none⟩ = some (.string (strL x)) ∧ TextsAt W (some ⟨g, off, none⟩) L) := fun W hW => ⟨(hW.cell (cell_lt cx)).trans cx, fun i z hz => by
              obtain ⟨g', o', e, hc⟩ := hTj.out i z hz
              exact ⟨g', o', e, (hW.cell (cell_lt hc)).trans hc⟩⟩
            generalize readV T (strL x) = RV at *
            generalize foundE T (strL x) = FE at *
            have e1 : (RV.toList == RV.toList) = true := by simp
            have e2 : (RV.toList != RV.toList) = false := by simp
            have e3 : (FE == FE) = true := by simp
            have e4 : (FE != FE) = false := by simp
            have g1 : (j : Int) < (n : Int) := by omega
            clear krd krrd kn2 hx hsx
            go_wp2_with (first
              | (go_at_call 18; refine (K18.out _ p10 b10).mono ?_; rintro e w11 ⟨rfl, p11, b11, c11⟩)
              | (go_at_call 17; refine K17.out.mono ?_; rintro e w10 ⟨rfl, p10, b10, c10⟩; have cx10 := (KX.out _ c10).1))
            exact ⟨⟨j + 1, by omega, rfl, p11, (KX.out _ (c10.trans (c11.mono c10.size))).2, b11⟩, by simp; omega⟩
          · obtain rfl : j = n := by omega
            clear krd krrd kn2
            go_wp2
            go_ret
            exact ⟨rfl, hBj⟩
      · have hk120 : ¬ (k : Int) < (m : Int) := by omega
        go_wp2_with (first
          | (go_at_call 15; refine (k15.out _ _ _ _ _ p8 t8 t8' b8).mono ?_; rintro e w9 ⟨rfl, t9, p9, b9⟩)
          | (go_at_call 16; refine (k16.out _ _ p7 t7 b7).mono ?_; rintro e w8 ⟨ra, rc, rfl, t8, t8', p8, b8⟩)
          | (go_at_call 14; refine (k14.out _ p6 b6).mono ?_; rintro e w7 ⟨la, lc, rfl, t7, p7, b7⟩)
          | (go_at_call 13; refine (krcr'.out _ d5 r5 b5).mono ?_; rintro e w6 ⟨rfl, p6, b6⟩)
          | (go_at_call 12; refine kcr'.out.mono ?_; rintro e w5 ⟨rfl, d5, r5, b5⟩))
        have hnl := kl2.out _ p9
        have P9 : Hid (Pair w9 N d r T) := p9
        have T9 : Hid (TextsAt w9 la L) := t9
        clear p6 p7 p8 p9 t7 t8 t8' t9 d5 r5 b5 b6 b7 b8 k14 k15 k16 krcr' kcr'
        go_loopw [12] (fun c wr => ∃ j : Nat, j ≤ n ∧ c = .int .i64 (j : Int) ∧ Hid (Pair wr N d r T) ∧ Hid (TextsAt wr la L) ∧ Below N w wr) (fun c _ => n - (intOf c).toNat)
        case atStart => exact ⟨0, by omega, rfl, P9, T9, b9⟩
        case round =>
          obtain ⟨j, hj, rfl, hPj, hTj, hBj⟩ := hrel
          by_cases hjn : j < n
          · obtain ⟨x, hx⟩ : ∃ x, L[j]? = some x := ⟨L[j]'(by have := NL.out; omega), List.getElem?_eq_getElem _⟩
            obtain ⟨g, off, rfl, cx⟩ := hTj.out j x hx
            have hsx := kn2.out _ x hPj.out (List.mem_of_getElem? hx)
            have K17 : Hid (Calls Try.prog 17 #[.pointer (some ⟨d, 0, none⟩), .string (strL x)] wr fun e w' => e = .returned (.tuple #[.string (readV T (strL x)), .int .i64 (foundE T (strL x))]) ∧ Pair w' N d r T ∧ Below N w w' ∧ Below wr.heap.size wr w') := krd.out wr d r T (strL x) hsx hPj.out hBj
            have K18 : Hid (∀ W, Pair W N d r T → Below N w W → Calls Try.prog 18 #[.pointer (some ⟨r, 0, none⟩), .string (strL x)] W fun e w' => e = .returned (.tuple #[.string (readV T (strL x)), .int .i64 (foundE T (strL x))]) ∧ Pair w' N d r T ∧ Below N w w' ∧ Below W.heap.size W w') := fun W h1 h2 => krrd.out W d r T (strL x) hsx h1 h2
            have KX : Hid (∀ W, Below wr.heap.size wr W → W.cell? ⟨g, off + j, none⟩ = some (.string (strL x)) ∧ TextsAt W (some ⟨g, off, none⟩) L) := fun W hW => ⟨(hW.cell (cell_lt cx)).trans cx, fun i z hz => by
              obtain ⟨g', o', e, hc⟩ := hTj.out i z hz
              exact ⟨g', o', e, (hW.cell (cell_lt hc)).trans hc⟩⟩
            generalize readV T (strL x) = RV at *
            generalize foundE T (strL x) = FE at *
            have e1 : (RV.toList == RV.toList) = true := by simp
            have e2 : (RV.toList != RV.toList) = false := by simp
            have e3 : (FE == FE) = true := by simp
            have e4 : (FE != FE) = false := by simp
            have g1 : (j : Int) < (n : Int) := by omega
            clear krd krrd kn2 hx hsx
            go_wp2_with (first
              | (go_at_call 18; refine (K18.out _ p10 b10).mono ?_; rintro e w11 ⟨rfl, p11, b11, c11⟩)
              | (go_at_call 17; refine K17.out.mono ?_; rintro e w10 ⟨rfl, p10, b10, c10⟩; have cx10 := (KX.out _ c10).1))
            exact ⟨⟨j + 1, by omega, rfl, p11, (KX.out _ (c10.trans (c11.mono c10.size))).2, b11⟩, by simp; omega⟩
          · obtain rfl : j = n := by omega
            clear krd krrd kn2
            go_wp2
            go_ret
            exact ⟨rfl, hBj⟩
end Go.Proofs.Ythaknjbcmflegaa
