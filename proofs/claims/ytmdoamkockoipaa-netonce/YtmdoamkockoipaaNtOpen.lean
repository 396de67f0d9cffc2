/- open (21). -/
import Derived.Test.YtmdoamkockoipaaNtCut
import Derived.Test.YtmdoamkockoipaaNtAdd
namespace Go.Proofs.Ytmdoamkockoipaa
open Go.RowKit Go.Maps

def natV (l : List Nat) : List Value := l.map fun (i : Nat) => Value.int .i64 (i : Int)
theorem natV_one (l : List Nat) : ∀ u ∈ natV l, u.oneCell' = true := fun u hu => by
  obtain ⟨i, _, rfl⟩ := List.mem_map.1 hu
  rfl
theorem und27 : Try.prog.underlying 27 = some (.slice 3) := by kernel_rfl
theorem info3 : (Try.prog.info? 3).map (fun i => (i.zero, i.size, i.bytes)) = some (some (.int .i64 0), 1, 8) := by kernel_rfl
theorem info3x : ∃ i, Try.prog.info? 3 = some i ∧ i.zero = some (.int .i64 0) ∧ i.size = 1 ∧ i.bytes = 8 := by
  have := info3
  cases h : Try.prog.info? 3 with
  | none => rw [h] at this; cases this
  | some i =>
    rw [h] at this
    simp at this
    exact ⟨i, rfl, this⟩
/-- A message's cells in a net's row. -/
theorem row_msg {w : World} {v : Value} {l : List Mg} (h : w.ownsRow 0 34 4 v l.length (mgF l)) (i : Nat) (m : Mg) (hi : l[i]? = some m) : ∃ g cap, v = .slice (some ⟨g, 0, none⟩) l.length cap ∧ w.rangeAt g (i * 4) (mgV m) := by
  have hil := (List.getElem?_eq_some_iff.1 hi).1
  obtain ⟨_, ⟨rfl, h0⟩ | ⟨g, cap, cur, rfl, _, hcur, hle, hcap, hcs, hxs⟩⟩ := h
  · omega
  · refine ⟨g, cap, rfl, fun j u hu => ?_⟩
    have h1 := mgF_at l i m hi j u hu
    rw [← hxs, List.getElem?_take] at h1
    split at h1
    · rw [cell_of_row w g _ cur 34 (0, 0) hcur]
      simpa using h1
    · cases h1
theorem open_step (c : List (Int × Int)) (l : List Mg) (i : Nat) (m : Mg) (h : l[i]? = some m) : openF c 0 (l.take (i + 1)) = if mayB c m then openF c 0 (l.take i) ++ [i] else openF c 0 (l.take i) := by
  have hi := (List.getElem?_eq_some_iff.1 h).1
  have e : l[i] = m := (List.getElem?_eq_some_iff.1 h).2
  rw [take_snoc l i hi, e, openF_app]
  have e2 : (l.take i).length = i := by rw [List.length_take]; omega
  simp only [e2, openF, Nat.zero_add]
  split <;> simp
theorem below_grown {B : Nat} {w w' : World} {v : Value} {base : Nat} {e : TypeId} {size n : Nat} {xs : List Value} (hown : w.ownsRow base e size v n xs) (hg : w.grownBy w' v.ownBlock) (hB : B ≤ base) (hs : B ≤ w.heap.size) : Below B w w' :=
  ⟨hg.os, hg.tape, hg.output, hg.size, fun k hk => hg.block k (by omega) (fun q => by
    obtain ⟨_, ⟨rfl, _⟩ | ⟨g, cap, cur, rfl, hb, _⟩⟩ := hown
    · cases q
    · have : k = g := Option.some.inj q
      omega)⟩
theorem below_of_grown_none {B : Nat} {w w' : World} (hg : w.grownBy w' none) (hs : B ≤ w.heap.size) : Below B w w' :=
  ⟨hg.os, hg.tape, hg.output, hg.size, fun k hk => hg.block k (by omega) (by simp)⟩
set_option maxHeartbeats 3200000 in
set_option maxRecDepth 100000 in
theorem open_any {G : Nat → Prop} {w : World} {b : Nat} {s : Nt} (hok : ∀ m ∈ s.l, okI m.2.1 ∧ okI m.2.2.1) (h : NetAt G w b s) :
    Calls Try.prog 21 #[.pointer (some ⟨b, 0, none⟩)] w fun e w' => ∃ v, e = .returned v ∧ w'.ownsRow w.heap.size 3 1 v (openI s).length (natV (openI s)) ∧ Below w.heap.size w w' := by
  have hN : Hid (NetAt G w b s) := h
  obtain ⟨N, hNs⟩ : ∃ N, w.heap.size = N := ⟨_, rfl⟩
  have HN : Hid (w.heap.size = N) := hNs
  obtain ⟨i3, hi3, hz3, hs3, hb3⟩ := info3x
  have F3 : Hid (Try.prog.info? 3 = some i3) := hi3
  obtain ⟨hG, hb, hr, v, mv, hH, hR, hg, hC⟩ := h
  have c0 := hH.at 0 _ rfl
  have hblt := hH.lt
  have HR : Hid (w.ownsRow 0 34 4 v s.l.length (mgF s.l)) := hR
  have HHo : Hid (Holds w b [v, .int .i64 (s.last : Int), mv] 46) := hH
  obtain ⟨av, cv, rfl⟩ := row_slice hR
  have HO : Hid (∀ m ∈ s.l, okI m.2.1 ∧ okI m.2.2.1) := hok
  generalize hl : s.l.length = n at *
  have HL : Hid (s.l.length = n) := hl
  obtain ⟨w0, hmk, hrow0, hg0⟩ := run_make_own (P := Try.prog) w N 27 3 i3 (.int .i64 0) 1 und27 hi3 hz3 hs3 .i64 .i64 n (by rw [hb3]; omega) (by unfold maxLen; omega) (by omega)
  have hb0 : Below N w w0 := below_of_grown_none hg0 (by omega)
  have c1 : w0.cell? ⟨b, 0, none⟩ = some (.slice av n cv) := (hH.below hb0 (by omega)).at 0 _ rfl
  rw [hNs] at hmk hrow0 ⊢
  clear hH hR hC hg hG hi3 hl hok
  go_enter Try.func21, Try.ntmps21
  go_wp2
  have HB0 : Hid (Below N w w0) := hb0
  have HR0 : Hid (w0.ownsRow N 3 1 (.slice (some ⟨N, 0, none⟩) 0 n) 0 []) := hrow0
  clear hb0 hrow0 hg0 hmk
  go_loopw [3, 17] (fun x c wr => ∃ i : Nat, c = .int .i64 (i : Int) ∧ i ≤ n ∧ Hid (wr.ownsRow N 3 1 x (openF s.cuts 0 (s.l.take i)).length (natV (openF s.cuts 0 (s.l.take i)))) ∧ Hid (Below N w wr)) (fun _ c _ => n - (intOf c).toNat)
  case atStart => exact ⟨0, rfl, Nat.zero_le _, by simpa [openF, natV] using HR0, HB0⟩
  case round =>
    obtain ⟨i, rfl, hi, hX, hB⟩ := hrel
    clear HB0 HR0 c1 c0
    by_cases hlt : i < n
    · obtain ⟨m1, m2, m3, m4, hm⟩ : ∃ m1 m2 m3 m4, s.l[i]? = some (m1, m2, m3, m4) := ⟨_, _, _, _, List.getElem?_eq_getElem (by rw [HL.out]; exact hlt)⟩
      have hok := HO.out _ (List.mem_of_getElem? hm)
      obtain ⟨g, cap, e, hrg⟩ := row_msg (l := s.l) (by rw [HL.out]; exact owns_same HR.out fun g hg' => hB.out.block g (by have := owns_lt HR.out hg'; have := HN.out; omega)) i _ hm
      obtain ⟨rfl, -, rfl⟩ := Value.slice.inj e
      have k0 : wr.cell? ⟨g, i * 4, none⟩ = some (.int .i64 m1) := hrg 0 _ rfl
      have k1 : wr.cell? ⟨g, i * 4 + 1, none⟩ = some (.int .i64 m2) := hrg 1 _ rfl
      have k2 : wr.cell? ⟨g, i * 4 + 2, none⟩ = some (.int .i64 m3) := hrg 2 _ rfl
      have k3 : wr.cell? ⟨g, i * 4 + 3, none⟩ = some (.string m4) := hrg 3 _ rfl
      have hNs1 : N ≤ wr.heap.size := by have := hB.out.size; have := HN.out; omega
      have hJ := joined_any m2 m3 hok.1 hok.2 ((hN.out.below (HN.out ▸ hB.out)).alloc (.cells #[.int .i64 m1, .int .i64 m2, .int .i64 m3, .string m4] 34))
      have hst := open_step s.cuts s.l i _ hm
      rw [show mayB s.cuts (m1, m2, m3, m4) = joinedB s.cuts m2 m3 from rfl] at hst
      have hin : (0 : Int) ≤ (i : Int) ∧ (i : Int) < (n : Int) := by omega
      clear hrg hm e hN HR HHo
      have hlo : (openF s.cuts 0 (s.l.take i)).length ≤ i := by
        rw [openF_len]
        refine Nat.le_trans (List.length_filter_le _ _) ?_
        rw [List.length_take]; omega
      generalize openF s.cuts 0 (s.l.take i) = P0 at *
      obtain ⟨P1, hP1⟩ : ∃ P1, openF s.cuts 0 (s.l.take (i + 1)) = P1 := ⟨_, rfl⟩
      rw [hP1] at hst
      have HP : Hid (openF s.cuts 0 (s.l.take (i + 1)) = P1) := hP1
      clear hP1
      generalize joinedB s.cuts m2 m3 = jb at *
      obtain ⟨ax, cx, rfl⟩ := row_slice hX.out
      cases jb with
      | true =>
        rw [if_pos rfl] at hst
        have HST : Hid (P1 = P0 ++ [i]) := hst
        clear hst
        have hJ2 : Hid (Calls Try.prog 12 #[.pointer (some ⟨b, 0, none⟩), .int .i64 m2, .int .i64 m3] (wr.alloc (.cells #[.int .i64 m1, .int .i64 m2, .int .i64 m3, .string m4] 34)) fun e w' => e = .returned (.bool true) ∧ Below (wr.alloc (.cells #[.int .i64 m1, .int .i64 m2, .int .i64 m3, .string m4] 34)).heap.size (wr.alloc (.cells #[.int .i64 m1, .int .i64 m2, .int .i64 m3, .string m4] 34)) w') := hJ
        clear hJ
        generalize hk : P0.length = k at *
        have HK : Hid (P0.length = k) := hk
        clear hk
        have hA : Hid (∀ w2, Below (wr.alloc (.cells #[.int .i64 m1, .int .i64 m2, .int .i64 m3, .string m4] 34)).heap.size (wr.alloc (.cells #[.int .i64 m1, .int .i64 m2, .int .i64 m3, .string m4] 34)) w2 → Below N w w2 ∧ w2.ownsRow N 3 1 (.slice ax k cx) k (natV P0)) := fun w2 hb2 => by
          have hb3 := ((Below.refl wr.heap.size wr).alloc (Nat.le_refl _) (.cells #[.int .i64 m1, .int .i64 m2, .int .i64 m3, .string m4] 34)).trans (hb2.mono (by simp))
          exact ⟨hB.out.trans (hb3.mono hNs1), owns_same hX.out fun g hg' => hb3.block g (owns_lt hX.out hg')⟩
        clear hX hB
        go_wp2_with (first
          | (go_at_call 12; refine hJ2.out.mono ?_; rintro e w2 ⟨rfl, hb2⟩; clear hJ2; obtain ⟨q1, q2⟩ := hA.out w2 hb2; have Q1 : Hid (Below N w w2) := q1; have Q2 : Hid (w2.ownsRow N 3 1 (.slice ax k cx) k (natV P0)) := q2; have hN2 : N ≤ w2.heap.size := (by have := q1.size; have := HN.out; omega); have HNC : Hid (∀ (j : Nat) (u : Value), [Value.int .i64 (i : Int)][j]? = some u → (w2.alloc (.cells #[.int .i64 (i : Int)] 3)).cell? (Addr.add ⟨w2.heap.size, 0, none⟩ j) = some u) := (fun j u hu => World.news_of_block (heap_alloc_new w2 _) j u hu); clear q1 q2 hb2 hA)
          | (at_builtin; refine wpList_append_src rfl (.tmp 28) (.tmp 30) 27 rfl N 3 i3 _ 1 8 und27 F3.out hz3 hs3 hb3 (by rfl) (by omega) _ _ _ (Q2.out.alloc _) rfl [.int .i64 (i : Int)] _ 1 1 rfl (by rfl) (fun _ => ⟨_, rfl, fun j u hu => HNC.out j u hu⟩) (fun u hu => by simp at hu; subst hu; rfl) (by unfold maxLen; omega) (by omega) (by simp; omega) ?_; intro v3 w3 own3 gr3 _)
          | go_in)
        have hE : Hid (w3.ownsRow N 3 1 v3 P1.length (natV P1)) := by
          show w3.ownsRow N 3 1 v3 P1.length (natV P1)
          rw [HST.out, List.length_append, HK.out, show natV (P0 ++ [i]) = natV P0 ++ [.int .i64 (i : Int)] by simp [natV]]
          exact own3
        have hE2 : Hid (Below N w w3) := (Q1.out.alloc hN2 _).trans (below_grown (Q2.out.alloc _) gr3 (Nat.le_refl _) (by simp; omega))
        exact ⟨⟨i + 1, by simp, by omega, by rw [HP.out]; exact hE, hE2⟩, by simp [intOf]; omega⟩
      | false =>
        rw [if_neg (by decide)] at hst
        have HST : Hid (P1 = P0) := hst
        clear hst
        have hJ2 : Hid (Calls Try.prog 12 #[.pointer (some ⟨b, 0, none⟩), .int .i64 m2, .int .i64 m3] (wr.alloc (.cells #[.int .i64 m1, .int .i64 m2, .int .i64 m3, .string m4] 34)) fun e w' => e = .returned (.bool false) ∧ Below (wr.alloc (.cells #[.int .i64 m1, .int .i64 m2, .int .i64 m3, .string m4] 34)).heap.size (wr.alloc (.cells #[.int .i64 m1, .int .i64 m2, .int .i64 m3, .string m4] 34)) w') := hJ
        clear hJ
        have hA : Hid (∀ w2, Below (wr.alloc (.cells #[.int .i64 m1, .int .i64 m2, .int .i64 m3, .string m4] 34)).heap.size (wr.alloc (.cells #[.int .i64 m1, .int .i64 m2, .int .i64 m3, .string m4] 34)) w2 → Below N w w2 ∧ w2.ownsRow N 3 1 (.slice ax P0.length cx) P1.length (natV P1)) := fun w2 hb2 => by
          have hb3 := ((Below.refl wr.heap.size wr).alloc (Nat.le_refl _) (.cells #[.int .i64 m1, .int .i64 m2, .int .i64 m3, .string m4] 34)).trans (hb2.mono (by simp))
          rw [HST.out]
          exact ⟨hB.out.trans (hb3.mono hNs1), owns_same hX.out fun g hg' => hb3.block g (owns_lt hX.out hg')⟩
        clear hX hB
        generalize P0.length = k at *
        go_wp2_with (go_at_call 12; refine hJ2.out.mono ?_; rintro e w2 ⟨rfl, hb2⟩; clear hJ2; obtain ⟨q1, q2⟩ := hA.out w2 hb2; have Q1 : Hid (Below N w w2) := q1; have Q2 : Hid (w2.ownsRow N 3 1 (.slice ax k cx) P1.length (natV P1)) := q2; clear q1 q2 hb2 hA)
        exact ⟨⟨i + 1, by simp, by omega, by rw [HP.out]; exact Q2, Q1⟩, by simp [intOf]; omega⟩
    · obtain rfl : i = n := by omega
      go_wp2
      go_ret
      rw [← HL.out, List.take_length] at hX
      exact ⟨_, rfl, hX.out, hB.out⟩
end Go.Proofs.Ytmdoamkockoipaa
