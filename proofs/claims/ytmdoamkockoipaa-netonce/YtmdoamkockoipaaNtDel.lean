/- slices.Delete (28) of one message, remove (23). -/
import Derived.Test.YtmdoamkockoipaaNtAdd
import Derived.Lib.SliceRun
namespace Go.Proofs.Ytmdoamkockoipaa
open Go.RowKit Go.Maps

theorem zero34 (w : World) : (zeroValue 34).run Try.prog w = .ok z34 w := by kernel_rfl
/-- The cells of n messages that are nothing. -/
def zs34 (n : Nat) : List Value := (Builtin.zeroCells z34.cells n).toList
theorem zs34_len (n : Nat) : (zs34 n).length = n * 4 := by simp [zs34, Builtin.zeroCells, z34, Value.cells]
theorem zs34_one (n : Nat) : ∀ u ∈ zs34 n, u.oneCell' = true := fun u hu => by
  simp only [zs34, Builtin.zeroCells, Array.toList_map, List.mem_map] at hu
  obtain ⟨i, _, rfl⟩ := hu
  have h4 : i % z34.cells.size < 4 := Nat.mod_lt _ (by decide)
  generalize i % z34.cells.size = k at h4
  match k, h4 with
  | 0, _ => rfl
  | 1, _ => rfl
  | 2, _ => rfl
  | 3, _ => rfl
theorem clear34 {w : World} {g : Nat} {cs : List Value} (hH : Holds w g cs 34) (o n c : Nat) (hn : 0 < n) (hfit : o + n * 4 ≤ cs.length) (ty : TypeId) :
    (Builtin.clear_ #[26] ty #[.slice (some ⟨g, o, none⟩) n c]).run Try.prog w = .ok (.tuple #[]) (w.setCells g o (zs34 n)) := by
  have hst := run_storeCells_cells (P := Try.prog) g o (zs34 n) 0 w (fun j hj => by rw [zs34_len] at hj; rw [Nat.add_zero]; exact (hH.there o (n * 4) hfit j hj).1) (fun j hj => by rw [zs34_len] at hj; rw [Nat.add_zero]; exact (hH.there o (n * 4) hfit j hj).2) (zs34_one n)
  simp only [Nat.add_zero] at hst
  obtain ⟨m, rfl⟩ : ∃ m, n = m + 1 := ⟨n - 1, by omega⟩
  have e : (Builtin.zeroCells (Value.agg #[.int .i64 0, .int .i64 0, .int .i64 0, .string ⟨#[]⟩]).cells (m + 1)).toList = zs34 (m + 1) := rfl
  simp [Builtin.clear_, run_underlying und26]
  rw [e, hst]; rfl
theorem overV_len (cs ds : List Value) (o : Nat) (h : o + ds.length ≤ cs.length) : (overV cs o ds).length = cs.length := by
  simp [overV]; omega
theorem overV_take (cs ds : List Value) (o k : Nat) (hk : k ≤ o) (ho : o ≤ cs.length) : (overV cs o ds).take k = cs.take k := by
  unfold overV
  rw [List.append_assoc, List.take_append_of_le_length (by rw [List.length_take]; omega), List.take_take, Nat.min_eq_left hk]
theorem overV_take2 (cs ds : List Value) (o : Nat) (h : o + ds.length ≤ cs.length) : (overV cs o ds).take (o + ds.length) = cs.take o ++ ds := by
  unfold overV
  rw [List.take_append_of_le_length (by rw [List.length_append, List.length_take]; omega), List.take_of_length_le (by rw [List.length_append, List.length_take]; omega)]
set_option maxHeartbeats 1600000 in
theorem delete_any {w : World} {g cap n i : Nat} (cs : List Value) (hH : Holds w g cs 34) (hc : cs.length = cap * 4) (hn : n ≤ cap) (hcap : cap ≤ maxLen) (hi : i < n) (h1 : ∀ u ∈ cs.take (n * 4), u.oneCell' = true) :
    Calls Try.prog 28 #[.slice (some ⟨g, 0, none⟩) n cap, .int .i64 (i : Int), .int .i64 ((i : Int) + 1)] w fun e w' => e = .returned (.slice (some ⟨g, 0, none⟩) (n - 1) cap) ∧ ∃ ds, Holds w' g ds 34 ∧ ds.length = cap * 4 ∧ ds.take ((n - 1) * 4) = cs.take (i * 4) ++ (cs.take (n * 4)).drop ((i + 1) * 4) ∧ Upd g w w' := by
  have hM : maxLen = 9223372036854775807 := rfl
  obtain ⟨i0, hi0, hz0, hsz0, hby0⟩ := info34x
  have HI0 : Hid (Try.prog.info? 34 = some i0) := hi0
  clear hi0
  obtain ⟨m, hm⟩ : ∃ m, m = n - (i + 1) := ⟨_, rfl⟩
  have hnm : n = i + 1 + m := by omega
  obtain ⟨news, hnews⟩ : ∃ news, news = (cs.take (n * 4)).drop ((i + 1) * 4) := ⟨_, rfl⟩
  have hlen : news.length = m * 4 := by rw [hnews, List.length_drop, List.length_take]; omega
  have hget : ∀ t u, news[t]? = some u → w.cell? ⟨g, (i + 1) * 4 + t, none⟩ = some u := fun t u hu => by
    have ht := (List.getElem?_eq_some_iff.1 hu).1
    rw [hnews, List.getElem?_drop, List.getElem?_take] at hu
    rw [hH.cell]
    split at hu
    · exact hu
    · cases hu
  obtain ⟨A, hA, hsrc⟩ : ∃ A : Addr, (if cap = i + 1 then some (⟨g, 0, none⟩ : Addr) else some ⟨g, (i + 1) * 4, none⟩) = some A ∧ Hid (∀ t u, news[t]? = some u → w.drew.cell? (A.add t) = some u) := by
    by_cases h : cap = i + 1
    · refine ⟨⟨g, 0, none⟩, by simp [h], fun t u hu => ?_⟩
      have h0 : news.length = 0 := by rw [hlen]; omega
      rw [List.length_eq_zero_iff.1 h0] at hu
      simp at hu
    · refine ⟨⟨g, (i + 1) * 4, none⟩, by simp [h], fun t u hu => ?_⟩
      rw [Addr.add_lit]
      exact hget t u hu
  have s1 : Hid (news.length = m * 4) := hlen
  have s2 : Hid (∀ u ∈ news, u.oneCell' = true) := fun u hu => by
    rw [hnews] at hu
    exact h1 u (List.mem_of_mem_drop hu)
  have s3 : Hid (∀ t, t < news.length → (w.drew.cell? ⟨g, 0 + i * 4 + t, none⟩).isSome = true ∧ w.drew.frozen? ⟨g, 0 + i * 4 + t, none⟩ = false) := fun t ht => by
    rw [Nat.zero_add]
    exact hH.there (i * 4) news.length (by rw [hlen]; omega) t ht
  have hT1 : Turned g w.drew (w.drew.setCells g (i * 4) news) (overV cs (i * 4) news) 34 := turned_setCells g news (i * 4) w.drew cs hH (by rw [hlen]; omega)
  have hl1 : (overV cs (i * 4) news).length = cap * 4 := by rw [overV_len _ _ _ (by rw [hlen]; omega), hc]
  obtain ⟨W1, hW1⟩ : ∃ W1, W1 = w.drew.setCells g (0 + i * 4) news := ⟨_, rfl⟩
  rw [Nat.zero_add] at hW1
  rw [← hW1] at hT1
  have hW : Hid (W1 = w.drew.setCells g (0 + i * 4) news) := by
    show W1 = _
    rw [Nat.zero_add]; exact hW1
  have hcl := clear34 hT1.holds ((i + m) * 4) 1 (cap - (i + m)) (by decide) (by rw [hl1]; omega)
  have hT2 : Turned g W1 (W1.setCells g ((i + m) * 4) (zs34 1)) (overV (overV cs (i * 4) news) ((i + m) * 4) (zs34 1)) 34 := turned_setCells g (zs34 1) ((i + m) * 4) W1 _ hT1.holds (by rw [hl1, zs34_len]; omega)
  have hE : Hid (∃ ds, Holds (W1.setCells g ((i + m) * 4) (zs34 1)) g ds 34 ∧ ds.length = cap * 4 ∧ ds.take ((n - 1) * 4) = cs.take (i * 4) ++ (cs.take (n * 4)).drop ((i + 1) * 4) ∧ Upd g w (W1.setCells g ((i + m) * 4) (zs34 1))) := by
    refine ⟨_, hT2.holds, ?_, ?_, ?_⟩
    · rw [overV_len _ _ _ (by rw [hl1, zs34_len]; omega), hl1]
    · rw [overV_take _ _ _ _ (by omega) (by rw [hl1]; omega), ← hnews]
      have := overV_take2 cs news (i * 4) (by rw [hlen]; omega)
      rw [hlen] at this
      rw [show (n - 1) * 4 = i * 4 + m * 4 by omega]
      exact this
    · exact ⟨hT2.os.trans hT1.os, hT2.tape.trans hT1.tape, hT2.output.trans hT1.output, by rw [hT2.size, hT1.size]; exact Nat.le_refl _, fun k _ hk => (hT2.others k hk).trans (hT1.others k hk)⟩
  generalize W1.setCells g ((i + m) * 4) (zs34 1) = W2 at hcl hE
  clear hT1 hT2 hl1 hW1 hnews hget hlen h1 hH hc
  have e1 : n - 1 = i + m := by omega
  rw [e1] at hE ⊢
  clear e1 hm
  subst hnm
  have e2 : i + 1 + m - (i + 1) = m := by omega
  have e3 : i + 1 + m - (i + m) = 1 := by omega
  have hic : i ≤ cap := by omega
  have hjc : i + 1 ≤ cap := by omega
  have hkc : i + m ≤ cap := by omega
  have hne : ¬ cap = i + m := by omega
  have hz1 : (0 : Int) ≤ (i : Int) + 1 := by omega
  have hz2 : (i : Int) + 1 ≤ (i : Int) + 1 + (m : Int) := by omega
  have hz3 : (0 : Int) ≤ (i : Int) + (m : Int) := by omega
  have hz4 : (i : Int) + (m : Int) ≤ (i : Int) + 1 + (m : Int) := by omega
  go_enter Try.func28, Try.ntmps28
  go_upto_region 5 with fail
  go_region_law (refine step_append_room rfl (.tmp 22) (.tmp 25) 26 rfl 34 i0 4 und26 HI0.out hsz0 g 0 i cap (by simp [Act.eval, Act.put]) A m (cap - (i + 1)) news (by simp [Act.eval, Act.put]) s1.out hsrc.out s2.out (by omega) s3.out ?_; rw [← hW.out])
  all_goals go_wp2
  all_goals go_ret
  all_goals exact ⟨rfl, hE.out⟩
/-- A net whose row has changed in its place. -/
theorem net_cut {G : Nat → Prop} {w w2 : World} {b g cap n : Nat} {s : Nt} {l : List Mg} (hn : NetAt G w b s) (hv : w.cell? ⟨b, 0, none⟩ = some (.slice (some ⟨g, 0, none⟩) n cap)) (hl : l.length ≤ s.l.length) (ds : List Value) (hH : Holds w2 g ds 34) (hd : ds.length = cap * 4) (ht : ds.take (l.length * 4) = mgF l) (hu : Upd g w w2) :
    w2.cell? ⟨b, 0, none⟩ = some (.slice (some ⟨g, 0, none⟩) n cap) ∧ w2.frozen? ⟨b, 0, none⟩ = false ∧ Hid (NetAt G (w2.setCell ⟨b, 0, none⟩ (.slice (some ⟨g, 0, none⟩) l.length cap)) b { s with l := l } ∧ Keeps G w (w2.setCell ⟨b, 0, none⟩ (.slice (some ⟨g, 0, none⟩) l.length cap))) := by
  obtain ⟨hG, hb, hr, v, mv, hN, hR, hg, hC⟩ := hn
  obtain rfl : v = .slice (some ⟨g, 0, none⟩) n cap := by
    have := hN.at 0 _ rfl
    rw [this] at hv
    exact Option.some.inj hv
  obtain ⟨hgG, hgb⟩ := hg g rfl
  have hcap : cap ≤ maxLen ∧ s.l.length ≤ cap := by
    obtain ⟨_, ⟨q, _⟩ | ⟨g', cap', cur, q, _, _, q1, q2, _⟩⟩ := hR
    · cases q
    · obtain ⟨_, _, rfl⟩ := Value.slice.inj q
      exact ⟨q2, q1⟩
  have hN2 : Holds w2 b [.slice (some ⟨g, 0, none⟩) n cap, .int .i64 (s.last : Int), mv] 46 := hN.upd hu (fun e => hgb e.symm)
  refine ⟨hN2.at 0 _ rfl, hN2.frozen 0, ⟨fun k hk => ?_, hb, Nat.le_trans hl hr, .slice (some ⟨g, 0, none⟩) l.length cap, mv, ?_, ?_, ?_, ?_⟩, ?_⟩
  · have := hG k hk
    have := hu.size
    simp; omega
  · have := hN2.set 0 (.slice (some ⟨g, 0, none⟩) l.length cap)
    simp only [List.set_cons_zero] at this
    exact this
  · refine owns_same (w := w2) ⟨mgF_len l, .inr ⟨g, cap, ds.toArray, rfl, Nat.zero_le _, hH, Nat.le_trans hl hcap.2, hcap.1, by simpa using hd, by simpa using ht⟩⟩ fun g' hg' => heap_setCell_other _ _ _ _ (fun e => hgb ((Option.some.inj hg').trans e))
  · intro g' hg'
    obtain rfl := Option.some.inj hg'
    exact ⟨hgG, hgb⟩
  · refine hC.same fun k es cl hm _ => ?_
    have hkb : k ≠ b := fun e => by
      subst e
      unfold Holds at hN
      rw [hm] at hN; cases hN
    have hkg : k ≠ g := fun e => by
      obtain ⟨cur, hcur⟩ := owns_cells hR (g := g) rfl
      rw [e, hcur] at hm; cases hm
    rw [heap_setCell_other _ _ _ _ hkb]
    exact hu.block k (Array.getElem?_eq_some_iff.1 hm).1 hkg
  · refine ⟨hu.os, hu.tape, hu.output, by have := hu.size; simp; omega, fun k hk => ?_⟩
    have hkb : k ≠ b := fun e => hb (e ▸ hk)
    have hkg : k ≠ g := fun e => hgG (e ▸ hk)
    rw [heap_setCell_other _ _ _ _ hkb]
    exact hu.block k (hG k hk) hkg
theorem erase_split (l : List Mg) (i : Nat) : mgF (l.eraseIdx i) = (mgF l).take (i * 4) ++ (mgF l).drop ((i + 1) * 4) := by
  rw [List.eraseIdx_eq_take_drop_succ, mgF_app, mgF_take, mgF_drop]
theorem remove_any {G : Nat → Prop} {w : World} {b : Nat} {s : Nt} (i : Nat) (hi : i < s.l.length) (h : NetAt G w b s) :
    Calls Try.prog 23 #[.pointer (some ⟨b, 0, none⟩), .int .i64 (i : Int)] w fun e w' => e = .returned (.tuple #[]) ∧ Hid (NetAt G w' b (dropN s i) ∧ Keeps G w w') := by
  have hN : Hid (NetAt G w b s) := h
  obtain ⟨hG, hb, hr, v, mv, hH, hR, hg, hC⟩ := h
  have c0 := hH.at 0 _ rfl
  obtain ⟨_, ⟨rfl, h0⟩ | ⟨g, cap, cur, rfl, _, hcur, hle, hcap, hcs, hxs⟩⟩ := hR
  · omega
  have hD := delete_any (w := w) (g := g) (cap := cap) (n := s.l.length) (i := i) cur.toList (by unfold Holds; simpa using hcur) (by simpa using hcs) hle hcap hi (by rw [hxs]; exact mgF_one _)
  have hEN : Hid (∀ w2, (∃ ds, Holds w2 g ds 34 ∧ ds.length = cap * 4 ∧ ds.take ((s.l.length - 1) * 4) = cur.toList.take (i * 4) ++ (cur.toList.take (s.l.length * 4)).drop ((i + 1) * 4) ∧ Upd g w w2) →
      w2.cell? ⟨b, 0, none⟩ = some (.slice (some ⟨g, 0, none⟩) s.l.length cap) ∧ w2.frozen? ⟨b, 0, none⟩ = false ∧ Hid (NetAt G (w2.setCell ⟨b, 0, none⟩ (.slice (some ⟨g, 0, none⟩) (s.l.length - 1) cap)) b (dropN s i) ∧ Keeps G w (w2.setCell ⟨b, 0, none⟩ (.slice (some ⟨g, 0, none⟩) (s.l.length - 1) cap)))) := by
    rintro w2 ⟨ds, q1, q2, q3, q4⟩
    have hl : (s.l.eraseIdx i).length = s.l.length - 1 := by rw [List.length_eraseIdx, if_pos hi]
    have := net_cut hN.out c0 (l := s.l.eraseIdx i) (by omega) ds q1 q2 (by
      rw [hl, q3, erase_split, hxs]
      congr 1
      rw [← hxs, List.take_take, Nat.min_eq_left (by omega)]) q4
    rw [hl] at this
    exact this
  have hD' : Hid (Calls Try.prog 28 #[.slice (some ⟨g, 0, none⟩) s.l.length cap, .int .i64 (i : Int), .int .i64 ((i : Int) + 1)] w fun e w' => e = .returned (.slice (some ⟨g, 0, none⟩) (s.l.length - 1) cap) ∧ ∃ ds, Holds w' g ds 34 ∧ ds.length = cap * 4 ∧ ds.take ((s.l.length - 1) * 4) = cur.toList.take (i * 4) ++ (cur.toList.take (s.l.length * 4)).drop ((i + 1) * 4) ∧ Upd g w w') := hD
  clear hD hcur hcs hxs hH hC hg hG
  have hi2 : (i : Int) < 4611686018427387904 := by omega
  generalize s.l.length = n at *
  go_enter Try.func23, Try.ntmps23
  go_wp2_with (go_at_call 28; refine hD'.out.mono ?_; rintro e w2 ⟨rfl, h2⟩; obtain ⟨x0, x1, x2⟩ := hEN.out w2 h2; clear hD' hEN h2)
  exact bodyPost_end (results_none (by kernel_rfl) _ _ _) rfl ⟨rfl, x2⟩
end Go.Proofs.Ytmdoamkockoipaa
