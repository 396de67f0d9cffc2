/- Waits (14). -/
import Derived.Test.YtmdoamkockoipaaNtTake
namespace Go.Proofs.Ytmdoamkockoipaa
open Go.RowKit Go.Maps

theorem waits_nil (v : Value) (w : World) : Calls Try.prog 14 #[.pointer none, v] w fun e w' => e = .returned (.slice none 0 0) ∧ w' = w := by
  go_enter Try.func14, Try.ntmps14
  go_wp2
  go_ret
  exact ⟨rfl, rfl⟩
def mayL (s : Nt) : List Mg := s.l.filter (mayB s.cuts)
def askL (q : List Int) (l : List Mg) : List Mg := l.filter fun m => askB q m.2.2.1
def waitL (s : Nt) (q : List Int) : List Mg := askL q (mayL s)
theorem open_at {s : Nt} {i k : Nat} (h : (openI s)[i]? = some k) : ∃ m, s.l[k]? = some m ∧ (mayL s)[i]? = some m := by
  have e := congrArg (fun x => x[i]?) (openI_map s)
  simp only [List.getElem?_map, h, Option.map_some] at e
  have hk := openI_mem (List.mem_of_getElem? h)
  obtain ⟨m, hm, _⟩ := hk
  refine ⟨m, hm, ?_⟩
  rw [hm] at e
  cases hq : (s.l.filter (mayB s.cuts))[i]? with
  | none => rw [hq] at e; cases e
  | some x =>
    rw [hq] at e
    simp at e
    rw [e]
    exact hq
theorem askL_snoc (q : List Int) (l : List Mg) (m : Mg) : askL q (l ++ [m]) = if askB q m.2.2.1 then askL q l ++ [m] else askL q l := by
  unfold askL
  rw [List.filter_append]
  by_cases h : askB q m.2.2.1 = true
  · simp [h]
  · simp [h]
set_option maxHeartbeats 3200000 in
set_option maxRecDepth 100000 in
theorem waits_any {G : Nat → Prop} {w : World} {b : Nat} {s : Nt} (v : Value) (q : List Int) (hq : ∀ x ∈ q, okI x) (hql : q.length < 4611686018427387904) (hok : ∀ m ∈ s.l, okI m.2.1 ∧ okI m.2.2.1) (hv : IntsAt w v q) (h : NetAt G w b s) :
    Calls Try.prog 14 #[.pointer (some ⟨b, 0, none⟩), v] w fun e w' => ∃ x, e = .returned x ∧ w'.ownsRow w.heap.size 34 4 x (waitL s q).length (mgF (waitL s q)) ∧ Below w.heap.size w w' := by
  have hN : Hid (NetAt G w b s) := h
  obtain ⟨N, hNs⟩ : ∃ N, w.heap.size = N := ⟨_, rfl⟩
  have HN : Hid (w.heap.size = N) := hNs
  obtain ⟨i0, hi0, hz0, hsz0, hby0⟩ := info34x
  have F0 : Hid (Try.prog.info? 34 = some i0) := hi0
  have hroom := h.room
  have hmay : (mayL s).length = (openI s).length := (openI_len s).symm
  have hGr : Hid (Calls Try.prog 24 #[v] w fun e w' => e = .returned (.map (some N)) ∧ Hid (SetAt 3 w' N (grpR q)) ∧ Hid (Below N w w')) := by
    have := groupOf_any v q hq hql w hv
    rw [hNs] at this
    exact this
  have hOp : Hid (∀ W, Below N w W → Calls Try.prog 21 #[.pointer (some ⟨b, 0, none⟩)] W fun e w' => ∃ a c, e = .returned (.slice a (openI s).length c) ∧ Hid (w'.ownsRow W.heap.size 3 1 (.slice a (openI s).length c) (openI s).length (natV (openI s)) ∧ Below W.heap.size W w')) := fun W hW => by
    refine (open_any hok (h.below (hNs ▸ hW))).mono ?_
    rintro e w' ⟨x, rfl, q1, q2⟩
    obtain ⟨a, c, rfl⟩ := row_slice q1
    exact ⟨a, c, rfl, q1, q2⟩
  have HO : Hid (∀ m ∈ s.l, okI m.2.1 ∧ okI m.2.2.1) := hok
  have hol := openI_le s
  have HMY : Hid ((mayL s).length = (openI s).length) := hmay
  obtain ⟨n, hn⟩ : ∃ n, (openI s).length = n := ⟨_, rfl⟩
  rw [hn] at hOp hol HMY
  have hn4 : n ≤ 4096 := by omega
  have HNL : Hid ((openI s).length = n) := hn
  rw [hNs]
  clear hn hmay h hi0 hok hv hNs
  go_enter Try.func14, Try.ntmps14
  go_wp2_with (first
    | (go_at_call 24; refine hGr.out.mono ?_; rintro e w1 ⟨rfl, hS, hB1⟩; clear hGr)
    | (go_at_call 21; refine (hOp.out w1 hB1.out).mono ?_; rintro e w2 ⟨ao, co, rfl, hO⟩; clear hOp))
  have hN1 : N < w1.heap.size := hS.out.lt
  have HB2 : Hid (Below N w w2) := hB1.out.trans (hO.out.2.mono (by omega))
  have HS2 : Hid (SetAt 3 w2 N (grpR q)) := hS.out.same (hO.out.2.block N hN1)
  have HO2 : Hid (w2.ownsRow (N + 1) 3 1 (.slice ao n co) n (natV (openI s))) := by
    obtain ⟨a1, a2⟩ := hO.out.1
    refine ⟨a1, a2.imp id ?_⟩
    rintro ⟨g, cap, cur, e, hb, r⟩
    exact ⟨g, cap, cur, e, by omega, r⟩
  have hN2 : Hid (N < w2.heap.size) := HS2.out.lt
  clear hS hB1 hO hN1 w1
  go_loopw [6, 17] (fun x c wr => ∃ i : Nat, c = .int .i64 (i : Int) ∧ i ≤ n ∧ Hid (wr.ownsRow w2.heap.size 34 4 x (askL q ((mayL s).take i)).length (mgF (askL q ((mayL s).take i)))) ∧ Hid (Below w2.heap.size w2 wr)) (fun _ c _ => n - (intOf c).toNat)
  case atStart => exact ⟨0, rfl, Nat.zero_le _, World.ownsRow_nil _ _ _ _, Below.refl _ _⟩
  case round =>
    obtain ⟨i, rfl, hi, hX, hB⟩ := hrel
    by_cases hlt : i < n
    · obtain ⟨k, hk⟩ : ∃ k, (openI s)[i]? = some k := ⟨_, List.getElem?_eq_getElem (by rw [HNL.out]; exact hlt)⟩
      obtain ⟨⟨m1, m2, m3, m4⟩, hm, hmi⟩ := open_at hk
      have hok := HO.out _ (List.mem_of_getElem? hm)
      have hkl := (List.getElem?_eq_some_iff.1 hm).1
      obtain ⟨go, cap, e, hcell⟩ := row_nat (l := openI s) (by rw [HNL.out]; exact owns_same HO2.out fun g hg' => hB.out.block g (owns_lt HO2.out hg')) i k hk
      obtain ⟨rfl, -, rfl⟩ := Value.slice.inj e
      have hnet := hN.out.below (HN.out ▸ (HB2.out.trans (hB.out.mono (Nat.le_of_lt hN2.out))))
      have hJ := has_any ((HS2.out.same (hB.out.block N hN2.out)).same (((Below.refl _ _).alloc (Nat.le_refl _) (.cells #[.int .i64 m1, .int .i64 m2, .int .i64 m3, .string m4] 34)).block N (Nat.lt_of_lt_of_le hN2.out hB.out.size))) m3 hok.2
      rw [ask_eq] at hJ
      obtain ⟨_, _, _, vr, mv, hHo, hR, _, _⟩ := hnet
      have c0 := hHo.at 0 _ rfl
      obtain ⟨g, cg, rfl, hrg⟩ := row_msg hR k _ hm
      have k0 : wr.cell? ⟨g, k * 4, none⟩ = some (.int .i64 m1) := hrg 0 _ rfl
      have k1 : wr.cell? ⟨g, k * 4 + 1, none⟩ = some (.int .i64 m2) := hrg 1 _ rfl
      have k2 : wr.cell? ⟨g, k * 4 + 2, none⟩ = some (.int .i64 m3) := hrg 2 _ rfl
      have k3 : wr.cell? ⟨g, k * 4 + 3, none⟩ = some (.string m4) := hrg 3 _ rfl
      have hin : (i : Int) < (n : Int) := by omega
      have hkn : (k : Int) < (s.l.length : Int) := by omega
      have hst : askL q ((mayL s).take (i + 1)) = if askB q m3 then askL q ((mayL s).take i) ++ [(m1, m2, m3, m4)] else askL q ((mayL s).take i) := by
        rw [take_snoc _ i (by rw [HMY.out]; exact hlt), (List.getElem?_eq_some_iff.1 hmi).2, askL_snoc]
      have hlo : (askL q ((mayL s).take i)).length ≤ i := by
        refine Nat.le_trans (List.length_filter_le _ _) ?_
        rw [List.length_take]; omega
      clear hrg hm e hR hHo hmi hk hN
      generalize askL q ((mayL s).take i) = P0 at *
      obtain ⟨P1, hP1⟩ : ∃ P1, askL q ((mayL s).take (i + 1)) = P1 := ⟨_, rfl⟩
      rw [hP1] at hst
      have HP : Hid (askL q ((mayL s).take (i + 1)) = P1) := hP1
      clear hP1
      generalize askB q m3 = jb at *
      obtain ⟨ax, cx, rfl⟩ := row_slice hX.out
      generalize s.l.length = L at *
      have hA : Hid (∀ w3, Below (wr.alloc (.cells #[.int .i64 m1, .int .i64 m2, .int .i64 m3, .string m4] 34)).heap.size (wr.alloc (.cells #[.int .i64 m1, .int .i64 m2, .int .i64 m3, .string m4] 34)) w3 → Below w2.heap.size w2 w3 ∧ w3.ownsRow w2.heap.size 34 4 (.slice ax P0.length cx) P0.length (mgF P0) ∧ Holds w3 wr.heap.size [.int .i64 m1, .int .i64 m2, .int .i64 m3, .string m4] 34) := fun w3 hb2 => by
        have hb3 := ((Below.refl wr.heap.size wr).alloc (Nat.le_refl _) (.cells #[.int .i64 m1, .int .i64 m2, .int .i64 m3, .string m4] 34)).trans (hb2.mono (by simp))
        exact ⟨hB.out.trans (hb3.mono hB.out.size), owns_same hX.out fun g hg' => hb3.block g (owns_lt hX.out hg'), (holds_new wr [.int .i64 m1, .int .i64 m2, .int .i64 m3, .string m4] 34).below hb2 (by simp)⟩
      have hws : Hid (w2.heap.size ≤ wr.heap.size) := hB.out.size
      clear hX hB
      cases jb with
      | true =>
        rw [if_pos rfl] at hst
        have HST : Hid (P1 = P0 ++ [(m1, m2, m3, m4)]) := hst
        have hJ2 : Hid (Calls Try.prog 25 #[.map (some N), .int .i64 m3] (wr.alloc (.cells #[.int .i64 m1, .int .i64 m2, .int .i64 m3, .string m4] 34)) fun e w' => e = .returned (.bool true) ∧ Below (wr.alloc (.cells #[.int .i64 m1, .int .i64 m2, .int .i64 m3, .string m4] 34)).heap.size (wr.alloc (.cells #[.int .i64 m1, .int .i64 m2, .int .i64 m3, .string m4] 34)) w') := hJ
        clear hJ hst
        generalize hkk : P0.length = kk at *
        have HK : Hid (P0.length = kk) := hkk
        clear hkk
        go_wp2_with (first
          | (go_at_call 25; refine hJ2.out.mono ?_; rintro e w3 ⟨rfl, hb2⟩; clear hJ2; obtain ⟨q1, q2, q3⟩ := hA.out w3 hb2; have t0 := q3.at 0 _ rfl; have t1 := q3.at 1 _ rfl; have t2 := q3.at 2 _ rfl; have t3 := q3.at 3 _ rfl; have Q1 : Hid (Below w2.heap.size w2 w3) := q1; have Q2 : Hid (w3.ownsRow w2.heap.size 34 4 (.slice ax kk cx) kk (mgF P0)) := q2; have hN2 : w2.heap.size ≤ w3.heap.size := q1.size; have HNC : Hid (∀ (j : Nat) (u : Value), [Value.int .i64 m1, .int .i64 m2, .int .i64 m3, .string m4][j]? = some u → (w3.alloc (.cells #[.int .i64 m1, .int .i64 m2, .int .i64 m3, .string m4] 34)).cell? (Addr.add ⟨w3.heap.size, 0, none⟩ j) = some u) := (fun j u hu => World.news_of_block (heap_alloc_new w3 _) j u hu); clear q1 q2 q3 hb2 hA)
          | (at_builtin; refine wpList_append_src rfl (.tmp 32) (.tmp 34) 26 rfl w2.heap.size 34 i0 _ 4 40 und26 F0.out hz0 hsz0 hby0 (by rfl) (by omega) _ _ _ (Q2.out.alloc _) rfl [.int .i64 m1, .int .i64 m2, .int .i64 m3, .string m4] _ 1 1 rfl (by rfl) (fun _ => ⟨_, rfl, fun j u hu => HNC.out j u hu⟩) (mgV_one (m1, m2, m3, m4)) (by unfold maxLen; omega) (by omega) (by simp; omega) ?_; intro v3 w4 own3 gr3 _)
          | go_in)
        have hE : Hid (w4.ownsRow w2.heap.size 34 4 v3 P1.length (mgF P1)) := by
          show w4.ownsRow w2.heap.size 34 4 v3 P1.length (mgF P1)
          rw [HST.out, List.length_append, HK.out, mgF_app]
          exact own3
        have hE2 : Hid (Below w2.heap.size w2 w4) := (Q1.out.alloc hN2 _).trans (below_grown (Q2.out.alloc _) gr3 (Nat.le_refl _) (by simp; omega))
        exact ⟨⟨i + 1, by simp, by omega, by rw [HP.out]; exact hE, hE2⟩, by simp [intOf]; omega⟩
      | false =>
        rw [if_neg (by decide)] at hst
        subst hst
        have hJ2 : Hid (Calls Try.prog 25 #[.map (some N), .int .i64 m3] (wr.alloc (.cells #[.int .i64 m1, .int .i64 m2, .int .i64 m3, .string m4] 34)) fun e w' => e = .returned (.bool false) ∧ Below (wr.alloc (.cells #[.int .i64 m1, .int .i64 m2, .int .i64 m3, .string m4] 34)).heap.size (wr.alloc (.cells #[.int .i64 m1, .int .i64 m2, .int .i64 m3, .string m4] 34)) w') := hJ
        clear hJ
        go_wp2_with (go_at_call 25; refine hJ2.out.mono ?_; rintro e w3 ⟨rfl, hb2⟩; clear hJ2; obtain ⟨q1, q2, -⟩ := hA.out w3 hb2; have Q1 : Hid (Below w2.heap.size w2 w3) := q1; have Q2 : Hid (w3.ownsRow w2.heap.size 34 4 (.slice ax P1.length cx) P1.length (mgF P1)) := q2; clear q1 q2 hb2 hA)
        exact ⟨⟨i + 1, by simp, by omega, by rw [HP.out]; exact Q2, Q1⟩, by simp [intOf]; omega⟩
    · obtain rfl : i = n := by omega
      go_wp2
      go_ret
      rw [← HMY.out, List.take_length] at hX
      refine ⟨_, rfl, ?_, HB2.out.trans (hB.out.mono (Nat.le_of_lt hN2.out))⟩
      obtain ⟨a1, a2⟩ := hX.out
      refine ⟨a1, a2.imp id ?_⟩
      rintro ⟨g, cap, cur, e, hb, r⟩
      exact ⟨g, cap, cur, e, by have := hN2.out; omega, r⟩
end Go.Proofs.Ytmdoamkockoipaa
