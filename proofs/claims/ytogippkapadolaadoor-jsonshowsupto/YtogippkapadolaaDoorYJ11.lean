/- JsObj, JsVal. -/
import Derived.Test.YtogippkapadolaaDoorYJ10
/- Objects of the parser. -/
namespace Go.Proofs.YtogippkapadolaaDoor
open Go.RowKit

theorem own_obj {N b : Nat} (h : b < N) (hb : 2 < b) : OwnM (N + 5) b (N + 2) N (N + 4) (N + 3) := ⟨⟨by omega, by omega, by omega, by omega, by omega, by omega, hb, by omega⟩, by omega, by omega, by omega, by omega, by omega, by omega, by omega, by omega, by omega⟩
theorem stepO_inv {L : List UInt8} {f : Nat → Res J} (hf : ∀ p j q, p ≤ L.length → f p = .ok j q → p < q ∧ q ≤ L.length) {x y : List (List UInt8) × List J} {q q' : Nat} (hq : q ≤ L.length) (h : stepO L f x q = .ok y q') : q < q' ∧ q' ≤ L.length ∧ y.2.length = x.2.length + 1 ∧ y.1.length = x.1.length + 1 := by
  unfold stepO at h
  cases hn : nameP L x.1 q with
  | bad a b => rw [hn] at h; cases h
  | ok nm q1 =>
    have h1 := name_le hq hn
    rw [hn] at h
    cases hr : f q1 with
    | bad a b =>
      have h : ((f q1).bind fun v q' => (Res.ok (x.1 ++ [nm], x.2 ++ [v]) q' : Res (List (List UInt8) × List J))) = .ok y q' := h
      rw [hr] at h; cases h
    | ok j q2 =>
      have h : ((f q1).bind fun v q' => (Res.ok (x.1 ++ [nm], x.2 ++ [v]) q' : Res (List (List UInt8) × List J))) = .ok y q' := h
      rw [hr] at h
      have h : (Res.ok (x.1 ++ [nm], x.2 ++ [j]) q2 : Res (List (List UInt8) × List J)) = .ok y q' := h
      cases h
      have h2 := hf _ _ _ h1.2 hr
      exact ⟨by omega, h2.2, by simp, by simp⟩
set_option maxHeartbeats 1000000 in
set_option maxRecDepth 100000 in
theorem object_any {b p k : Nat} {s : ByteArray} {f : Nat → Res J} {w : World} (hk : k < 16) (hp : p < s.size) (hs : s.size ≤ 1099511627775) (h : PAt w b s p k) (hG : Glob w) (hb : 2 < b) (hv : ValOk b s (k + 1) f) (hf : ∀ p j q, p ≤ s.data.toList.length → f p = .ok j q → p < q ∧ q ≤ s.data.toList.length) :
    Calls Tryd.prog 58 #[.pointer (some ⟨b, 0, none⟩)] w (Done b s k w (objP s.data.toList (some f) p) (jsV w)) := by
  have hmf : ∀ (fn : Fn) (first cap : Array Value) (w : World), (Instr.makeFunc fn first cap).run Tryd.prog w = .ok (.func fn first cap) w := fun _ _ _ _ => rfl
  have hmm : ∀ w : World, (Instr.makeMap 53 none).run Tryd.prog w = .ok (.map (some w.heap.size)) (w.alloc (.map #[] 0)) := by intro w; kernel_rfl
  obtain ⟨N, hN⟩ : ∃ N, w.heap.size = N := ⟨_, rfl⟩
  have hbN : b < N := hN ▸ h.lt
  have ho := own_obj hbN hb
  obtain ⟨W1, hW1⟩ : ∃ W1, ((w.alloc (.cells #[.pointer (some ⟨b, 0, none⟩)] 45)).alloc (.cells zeroJ.toArray 27)).alloc (.cells (boxV 5 (.slice none 0 0) (.slice none 0 0)).toArray 27) = W1 := ⟨_, rfl⟩
  have hg1 : Gr w W1 := by rw [← hW1]; exact ((Gr.alloc _ _).trans (Gr.alloc _ _)).trans (Gr.alloc _ _)
  have hsz1 : W1.heap.size = N + 3 := by rw [← hW1]; simp [hN]
  obtain ⟨W, hW⟩ : ∃ W, (W1.alloc (.map #[] 0)).alloc (.cells #[.map (some (N + 3))] 53) = W := ⟨_, rfl⟩
  have hg2 : Gr W1 W := by rw [← hW]; exact (Gr.alloc _ _).trans (Gr.alloc _ _)
  have hg := hg1.trans hg2
  have hsz : W.heap.size = N + 5 := by rw [← hW]; simp [hsz1]
  have hbv : Holds W (N + 2) (boxV 5 (.slice none 0 0) (.slice none 0 0)) 27 := by
    have h1 : Holds W1 (N + 2) (boxV 5 (.slice none 0 0) (.slice none 0 0)) 27 := by
      have := heap_alloc_new ((w.alloc (.cells #[.pointer (some ⟨b, 0, none⟩)] 45)).alloc (.cells zeroJ.toArray 27)) (.cells (boxV 5 (.slice none 0 0) (.slice none 0 0)).toArray 27)
      rw [hW1] at this
      simpa [hN, Holds] using this
    exact h1.gr hg2
  have hbp : Holds W N [.pointer (some ⟨b, 0, none⟩)] 45 := by
    have h1 : Holds (w.alloc (.cells #[.pointer (some ⟨b, 0, none⟩)] 45)) N [.pointer (some ⟨b, 0, none⟩)] 45 := by
      have := heap_alloc_new w (.cells #[.pointer (some ⟨b, 0, none⟩)] 45)
      rw [hN] at this; exact this
    have h2 : Holds W1 N [.pointer (some ⟨b, 0, none⟩)] 45 := by rw [← hW1]; exact (h1.alloc _).alloc _
    exact h2.gr hg2
  have hres : Holds W (N + 1) zeroJ 27 := by
    have h1 : Holds ((w.alloc (.cells #[.pointer (some ⟨b, 0, none⟩)] 45)).alloc (.cells zeroJ.toArray 27)) (N + 1) zeroJ 27 := by
      have := heap_alloc_new (w.alloc (.cells #[.pointer (some ⟨b, 0, none⟩)] 45)) (.cells zeroJ.toArray 27)
      simpa [hN, Holds] using this
    have h2 : Holds W1 (N + 1) zeroJ 27 := by rw [← hW1]; exact h1.alloc _
    exact h2.gr hg2
  have hnm : NmsAt W (N + 3) [] := by
    have h1 := nms_made W1
    rw [hsz1] at h1
    rw [← hW]
    exact h1.gr (Gr.alloc _ _)
  have hbm : Holds W (N + 4) [.map (some (N + 3))] 53 := by
    have := heap_alloc_new (W1.alloc (.map #[] 0)) (.cells #[.map (some (N + 3))] 53)
    rw [hW] at this
    simpa [hsz1, Holds] using this
  have hPW := h.gr hg
  have hGW := hG.gr hg
  have hInv : InvO (N + 5) (N + 2) N (N + 4) (N + 3) b ([], []) W := ⟨⟨_, _, _, vin_new hbv⟩, hbp, hbm, hnm, by omega⟩
  have hE := each_any71 (b := b) (k := k) (p := p) (M := N + 5) (bv := N + 2) (bp := N) (bm := N + 4) (s := s) (Ls := [b, N + 2, N + 3]) (c := 125) (w := W) (step := stepO s.data.toList f) (fun x q y q' hq h => ⟨(stepO_inv hf hq h).1, (stepO_inv hf hq h).2.1⟩) (by decide) (x0 := (([], []) : List (List UInt8) × List J)) (Rc := fun x q => x.2.length ≤ q ∧ x.1.length ≤ q) (fun x q q' h1 h2 => ⟨Nat.le_trans h1.1 h2, Nat.le_trans h1.2 h2⟩) (fun x q y q' hq h1 h2 => by
      have := stepO_inv hf hq h2
      omega) ⟨Nat.zero_le _, Nat.zero_le _⟩ hPW hp hk hInv (by omega) (fun x y z h1 h2 => h1.upd ho h2) (by simp) (fun x q y h1 h2 h3 h4 h5 => take71 ho hv h1 hs h2.1 h2.2 h3 h4 (hGW.same fun i h6 h7 => h5.block i h7 (by omega) (by simp; omega)))
  have hup : ∀ z z', KeepL [b, N + 2, N + 3] (N + 5) W z → (∀ i, i < N → z'.heap[i]? = z.heap[i]?) → z'.os = z.os → z'.tape = z.tape → z'.output = z.output → z.heap.size ≤ z'.heap.size → Upd b w z' := fun z z' hk h1 h2 h3 h4 h5 => ⟨h2.trans (hk.os.trans hg.os), h3.trans (hk.tape.trans hg.tape), h4.trans (hk.output.trans hg.output), Nat.le_trans hg.size (Nat.le_trans hk.size h5), fun i h6 h7 => (h1 i (by omega)).trans ((hk.block i (Nat.lt_of_lt_of_le h6 hg.size) (by omega) (by simp; omega)).trans (hg.block i h6))⟩
  show Calls _ _ _ _ (Done b s k w ((eachP s.data.toList 125 (stepO s.data.toList f) ([], []) p).bind fun x q => .ok (.mk 5 false 0 [] x.2 x.1) q) (jsV w))
  cases hr : eachP s.data.toList 125 (stepO s.data.toList f) ([], []) p with
  | bad q er =>
    rw [hr] at hE
    have hE : Calls Tryd.prog 69 #[.pointer (some ⟨b, 0, none⟩), .string ⟨#[125]⟩, .func (.func 71) #[] #[.pointer (some ⟨N + 2, 0, none⟩), .pointer (some ⟨N, 0, none⟩), .pointer (some ⟨N + 4, 0, none⟩)]] W (fun e z => KeepL [b, N + 2, N + 3] (N + 5) W z ∧ e = .panicked (faultV q er)) := hE
    have hfin : ∀ z, KeepL [b, N + 2, N + 3] (N + 5) W z → Upd b w z := fun z hk => hup z z hk (fun _ _ => rfl) rfl rfl rfl (Nat.le_refl _)
    clear hr hbv hbp hres hInv hPW hGW h hG hv hf hup ho hsz hg hbN hnm hbm hg1 hg2 hsz1
    subst hN hW1 hW
    go_enter Tryd.func58, Tryd.ntmps58
    go_wp2_with (go_at_call 69; refine hE.mono ?_; rintro e z ⟨hk, rfl⟩)
    exact ⟨rfl, hfin _ hk, rfl⟩
  | ok x q =>
    rw [hr] at hE
    show Calls _ _ _ _ (Done b s k w (.ok (.mk 5 false 0 [] x.2 x.1) q) (jsV w))
    have hE : Calls Tryd.prog 69 #[.pointer (some ⟨b, 0, none⟩), .string ⟨#[125]⟩, .func (.func 71) #[] #[.pointer (some ⟨N + 2, 0, none⟩), .pointer (some ⟨N, 0, none⟩), .pointer (some ⟨N + 4, 0, none⟩)]] W (fun e z => KeepL [b, N + 2, N + 3] (N + 5) W z ∧ e = .returned (.tuple #[]) ∧ PAt z b s q k ∧ InvO (N + 5) (N + 2) N (N + 4) (N + 3) b x z) := hE
    have hfin : ∀ z, KeepL [b, N + 2, N + 3] (N + 5) W z → PAt z b s q k → InvO (N + 5) (N + 2) N (N + 4) (N + 3) b x z → ∃ u nv, u.oneCell' = true ∧ nv.oneCell' = true ∧ Holds z (N + 2) (boxV 5 u nv) 27 ∧ Holds z (N + 1) zeroJ 27 ∧ ∀ z', Turned (N + 1) z z' (boxV 5 u nv) 27 → Done b s k w (.ok (.mk 5 false 0 [] x.2 x.1) q) (jsV w) (.returned (.agg (boxV 5 u nv).toArray)) z' := fun z hk hPz ⟨⟨u, nv, es, hV⟩, _, _, _, hM⟩ => by
      obtain ⟨_, _, e1, _⟩ := own_val hV.own
      obtain ⟨_, _, e2, _⟩ := own_val hV.nown
      refine ⟨u, nv, by rw [e1]; rfl, by rw [e2]; rfl, hV.box, hres.keepL hk (by omega) (by simp; omega), fun z' hT => ⟨hup z z' hk (fun i h1 => hT.others i (by omega)) hT.os hT.tape hT.output (Nat.le_of_eq hT.size.symm), _, rfl, ?_, (hT.others b (by omega)).trans hPz⟩⟩
      exact hV.jat.mono fun i h1 h2 => ⟨by omega, hT.others i (by omega)⟩
    clear hr hbv hbp hres hInv hPW hGW h hG hv hf hup ho hsz hg hbN hnm hbm hg1 hg2 hsz1
    subst hN hW1 hW
    go_enter Tryd.func58, Tryd.ntmps58
    go_wp2_with (first
      | (go_at_call 69; refine hE.mono ?_; rintro e z ⟨hk, rfl, hPz, hIz⟩; obtain ⟨u, nv, ho1, ho2, hb1, hb2, hfin⟩ := hfin z hk hPz hIz)
      | (refine wpList_load_part rfl 27 (.tmp 3) rfl (w.heap.size + 2) 0 rfl _ _ (range_of hb1) Tryd.underlying27 rfl (by kernel_rfl) ?_)
      | (refine wpList_store_all rfl 27 (.tmp 2) (.tmp 10) rfl (w.heap.size + 1) rfl _ rfl 27 zeroJ hb2 (by kernel_rfl) rfl (one_box _ _ _ ho1 ho2) ?_; intro z' hT))
    exact bodyPost_ret (results_cell_row (p := 2) (by kernel_rfl) _ z' (w.heap.size + 1) 27 (boxV 5 u nv).toArray (0, 0) _ rfl hT.holds Tryd.underlying27 rfl (by kernel_rfl)) rfl (hfin z' hT)
end Go.Proofs.YtogippkapadolaaDoor

/- value of the parser (by gen_jsval.py). -/
namespace Go.Proofs.YtogippkapadolaaDoor
open Go.RowKit

theorem leaf_jat (w : World) (S : Nat → Prop) (k : Int) (b : Bool) (n : Int) (s : List UInt8) : JAt w S (.mk k b n s [] []) (.agg (jsonV k b n s none none 0 0 0 0).toArray) :=
  .mk k b n s [] [] none none 0 0 [] rfl (fun c h => (by cases h)) (fun i x c h _ => (by simp at h)) (.inl rfl) (.inl rfl)
theorem val_fin {b k q N : Nat} {s : ByteArray} {w z : World} {j : J} {cs : List Value} (hN : w.heap.size = N) (hb : b < N) (hU : Upd b w z) (hP : PAt z b s q k) (hJ : JAt z (fun i => N < i) j (.agg cs.toArray)) : ∀ z', Turned N z z' cs 27 → Done b s k w (.ok j q) (jsV w) (.returned (.agg cs.toArray)) z' := fun z' hT =>
  ⟨⟨hT.os.trans hU.os, hT.tape.trans hU.tape, hT.output.trans hU.output, by have := hU.size; have := hT.size; omega, fun i h1 h2 => (hT.others i (by omega)).trans (hU.block i h1 h2)⟩, _, rfl, hJ.mono fun i h1 _ => ⟨by omega, hT.others i (by omega)⟩, (hT.others b (by omega)).trans hP⟩
set_option maxHeartbeats 4000000 in
set_option maxRecDepth 100000 in
theorem value_step {b p k : Nat} {s : ByteArray} {inner : Option (Nat → Res J)} {w : World} (hp : p ≤ s.size) (hs : s.size ≤ 1099511627775) (h : PAt w b s p k) (hG : Glob w) (hb : 2 < b)
    (hlist : ∀ m y, m < s.size → PAt y b s m k → Glob y → Calls Tryd.prog 57 #[.pointer (some ⟨b, 0, none⟩)] y (Done b s k y (listP s.data.toList inner m) (jsV y)))
    (hobj : ∀ m y, m < s.size → PAt y b s m k → Glob y → Calls Tryd.prog 58 #[.pointer (some ⟨b, 0, none⟩)] y (Done b s k y (objP s.data.toList inner m) (jsV y))) :
    Calls Tryd.prog 35 #[.pointer (some ⟨b, 0, none⟩)] w (Done b s k w (val2 s.data.toList inner (nextP s.data.toList p)) (jsV w)) := by
  obtain ⟨N, hN⟩ : ∃ N, w.heap.size = N := ⟨_, rfl⟩
  have hbN : b < N := hN ▸ h.lt
  obtain ⟨m, hm⟩ : ∃ m, nextP s.data.toList p = m := ⟨_, rfl⟩
  have hml : m ≤ s.size := hm ▸ next_le (L := s.data.toList) hp
  have hz0 : Holds (w.alloc (.cells zeroJ.toArray 27)) N zeroJ 27 := by
    have := heap_alloc_new w (.cells zeroJ.toArray 27)
    rw [hN] at this; exact this
  have hU0 : Upd b w (w.alloc (.cells zeroJ.toArray 27)) := (Upd.refl b w).alloc _
  have hnx := next_any b s p k hp (by omega) (w.alloc (.cells zeroJ.toArray 27)) (h.alloc _)
  rw [hm] at hnx ⊢
  have h2 : ∀ z, Upd b (w.alloc (.cells zeroJ.toArray 27)) z → Upd b w z ∧ Holds z N zeroJ 27 ∧ Glob z := fun z hz => ⟨hU0.trans hz, hz0.upd hz (by omega), hG.upd (hU0.trans hz) hb⟩
  clear hz0 hG h hm
  by_cases hc110 : hereP s.data.toList m = 110
  · have hc := hc110
    rw [hc] at hnx
    have hnx : Calls Tryd.prog 36 #[.pointer (some ⟨b, 0, none⟩)] (w.alloc (.cells zeroJ.toArray 27)) fun e w' => e = .returned (.int .u8 110) ∧ PAt w' b s m k ∧ Upd b (w.alloc (.cells zeroJ.toArray 27)) w' := hnx
    have hps : ∀ y, PAt y b s m k → Calls Tryd.prog 55 #[.pointer (some ⟨b, 0, none⟩), .string ⟨#[110, 117, 108, 108]⟩] y (Done b s k y (passP s.data.toList [110, 117, 108, 108] m) nilV) := fun y hy => pass_any b s m k ⟨#[110, 117, 108, 108]⟩ hml (by omega) (by decide) y hy
    rw [show val2 s.data.toList inner m = (passP s.data.toList [110, 117, 108, 108] m).bind fun _ q => .ok jnull q by unfold val2; rw [hc]; rfl]
    clear hlist hobj hc hp hml
    cases hr : passP s.data.toList [110, 117, 108, 108] m with
    | bad q er =>
      rw [hr] at hps
      clear hr
      subst hN
      go_enter Tryd.func35, Tryd.ntmps35
      go_wp2_with (first
        | (go_at_call 36; refine hnx.mono ?_; rintro e z ⟨rfl, hPz, hUz⟩; obtain ⟨hU1, hz1, _⟩ := h2 z hUz; clear hnx)
        | (go_at_call 55; refine (hps _ hPz).mono ?_; rintro e z2 ⟨hU2, rfl⟩))
      exact ⟨rfl, hU1.trans hU2, rfl⟩
    | ok u q =>
      rw [hr] at hps
      show Calls _ _ _ _ (Done b s k w (.ok jnull q) (jsV w))
      have hfin : ∀ z, Upd b w z → PAt z b s q k → ∀ z', Turned N z z' (jsonV 0 false 0 [] none none 0 0 0 0) 27 → Done b s k w (.ok jnull q) (jsV w) (.returned (.agg (jsonV 0 false 0 [] none none 0 0 0 0).toArray)) z' := fun z hU hP => val_fin hN hbN hU hP (leaf_jat z _ _ _ _ _)
      clear hr
      subst hN
      go_enter Tryd.func35, Tryd.ntmps35
      go_wp2_with (first
        | (go_at_call 36; refine hnx.mono ?_; rintro e z ⟨rfl, hPz, hUz⟩; obtain ⟨hU1, hz1, _⟩ := h2 z hUz; clear hnx)
        | (go_at_call 55; refine (hps _ hPz).mono ?_; rintro e z2 ⟨hU2, _, rfl, rfl, hP2⟩; have hz2 := hz1.upd hU2 (by omega); have hfin := hfin _ (hU1.trans hU2) hP2)
        | (refine wpList_store_all rfl 27 (.tmp 2) (.tmp 9) rfl w.heap.size rfl (jsonV 0 false 0 [] none none 0 0 0 0) rfl 27 zeroJ hz2 (by kernel_rfl) rfl (by intro v hv; simp only [jsonV, List.mem_cons, List.not_mem_nil, or_false] at hv; rcases hv with rfl | rfl | rfl | rfl | rfl | rfl <;> rfl) ?_; intro z' hT))
      exact bodyPost_ret (results_cell_row (p := 2) (by kernel_rfl) _ z' w.heap.size 27 (jsonV 0 false 0 [] none none 0 0 0 0).toArray (0, 0) _ rfl hT.holds Tryd.underlying27 rfl (by kernel_rfl)) rfl (hfin z' hT)
  by_cases hc116 : hereP s.data.toList m = 116
  · have hc := hc116
    rw [hc] at hnx
    have hnx : Calls Tryd.prog 36 #[.pointer (some ⟨b, 0, none⟩)] (w.alloc (.cells zeroJ.toArray 27)) fun e w' => e = .returned (.int .u8 116) ∧ PAt w' b s m k ∧ Upd b (w.alloc (.cells zeroJ.toArray 27)) w' := hnx
    have hps : ∀ y, PAt y b s m k → Calls Tryd.prog 55 #[.pointer (some ⟨b, 0, none⟩), .string ⟨#[116, 114, 117, 101]⟩] y (Done b s k y (passP s.data.toList [116, 114, 117, 101] m) nilV) := fun y hy => pass_any b s m k ⟨#[116, 114, 117, 101]⟩ hml (by omega) (by decide) y hy
    rw [show val2 s.data.toList inner m = (passP s.data.toList [116, 114, 117, 101] m).bind fun _ q => .ok (.mk 1 true 0 [] [] []) q by unfold val2; rw [hc]; rfl]
    clear hlist hobj hc hp hml
    cases hr : passP s.data.toList [116, 114, 117, 101] m with
    | bad q er =>
      rw [hr] at hps
      clear hr
      subst hN
      go_enter Tryd.func35, Tryd.ntmps35
      go_wp2_with (first
        | (go_at_call 36; refine hnx.mono ?_; rintro e z ⟨rfl, hPz, hUz⟩; obtain ⟨hU1, hz1, _⟩ := h2 z hUz; clear hnx)
        | (go_at_call 55; refine (hps _ hPz).mono ?_; rintro e z2 ⟨hU2, rfl⟩))
      exact ⟨rfl, hU1.trans hU2, rfl⟩
    | ok u q =>
      rw [hr] at hps
      show Calls _ _ _ _ (Done b s k w (.ok (.mk 1 true 0 [] [] []) q) (jsV w))
      have hfin : ∀ z, Upd b w z → PAt z b s q k → ∀ z', Turned N z z' (jsonV 1 true 0 [] none none 0 0 0 0) 27 → Done b s k w (.ok (.mk 1 true 0 [] [] []) q) (jsV w) (.returned (.agg (jsonV 1 true 0 [] none none 0 0 0 0).toArray)) z' := fun z hU hP => val_fin hN hbN hU hP (leaf_jat z _ _ _ _ _)
      clear hr
      subst hN
      go_enter Tryd.func35, Tryd.ntmps35
      go_wp2_with (first
        | (go_at_call 36; refine hnx.mono ?_; rintro e z ⟨rfl, hPz, hUz⟩; obtain ⟨hU1, hz1, _⟩ := h2 z hUz; clear hnx)
        | (go_at_call 55; refine (hps _ hPz).mono ?_; rintro e z2 ⟨hU2, _, rfl, rfl, hP2⟩; have hz2 := hz1.upd hU2 (by omega); have hfin := hfin _ (hU1.trans hU2) hP2)
        | (refine wpList_store_all rfl 27 (.tmp 2) (.tmp 14) rfl w.heap.size rfl (jsonV 1 true 0 [] none none 0 0 0 0) rfl 27 zeroJ hz2 (by kernel_rfl) rfl (by intro v hv; simp only [jsonV, List.mem_cons, List.not_mem_nil, or_false] at hv; rcases hv with rfl | rfl | rfl | rfl | rfl | rfl <;> rfl) ?_; intro z' hT))
      exact bodyPost_ret (results_cell_row (p := 2) (by kernel_rfl) _ z' w.heap.size 27 (jsonV 1 true 0 [] none none 0 0 0 0).toArray (0, 0) _ rfl hT.holds Tryd.underlying27 rfl (by kernel_rfl)) rfl (hfin z' hT)
  by_cases hc102 : hereP s.data.toList m = 102
  · have hc := hc102
    rw [hc] at hnx
    have hnx : Calls Tryd.prog 36 #[.pointer (some ⟨b, 0, none⟩)] (w.alloc (.cells zeroJ.toArray 27)) fun e w' => e = .returned (.int .u8 102) ∧ PAt w' b s m k ∧ Upd b (w.alloc (.cells zeroJ.toArray 27)) w' := hnx
    have hps : ∀ y, PAt y b s m k → Calls Tryd.prog 55 #[.pointer (some ⟨b, 0, none⟩), .string ⟨#[102, 97, 108, 115, 101]⟩] y (Done b s k y (passP s.data.toList [102, 97, 108, 115, 101] m) nilV) := fun y hy => pass_any b s m k ⟨#[102, 97, 108, 115, 101]⟩ hml (by omega) (by decide) y hy
    rw [show val2 s.data.toList inner m = (passP s.data.toList [102, 97, 108, 115, 101] m).bind fun _ q => .ok (.mk 1 false 0 [] [] []) q by unfold val2; rw [hc]; rfl]
    clear hlist hobj hc hp hml
    cases hr : passP s.data.toList [102, 97, 108, 115, 101] m with
    | bad q er =>
      rw [hr] at hps
      clear hr
      subst hN
      go_enter Tryd.func35, Tryd.ntmps35
      go_wp2_with (first
        | (go_at_call 36; refine hnx.mono ?_; rintro e z ⟨rfl, hPz, hUz⟩; obtain ⟨hU1, hz1, _⟩ := h2 z hUz; clear hnx)
        | (go_at_call 55; refine (hps _ hPz).mono ?_; rintro e z2 ⟨hU2, rfl⟩))
      exact ⟨rfl, hU1.trans hU2, rfl⟩
    | ok u q =>
      rw [hr] at hps
      show Calls _ _ _ _ (Done b s k w (.ok (.mk 1 false 0 [] [] []) q) (jsV w))
      have hfin : ∀ z, Upd b w z → PAt z b s q k → ∀ z', Turned N z z' (jsonV 1 false 0 [] none none 0 0 0 0) 27 → Done b s k w (.ok (.mk 1 false 0 [] [] []) q) (jsV w) (.returned (.agg (jsonV 1 false 0 [] none none 0 0 0 0).toArray)) z' := fun z hU hP => val_fin hN hbN hU hP (leaf_jat z _ _ _ _ _)
      clear hr
      subst hN
      go_enter Tryd.func35, Tryd.ntmps35
      go_wp2_with (first
        | (go_at_call 36; refine hnx.mono ?_; rintro e z ⟨rfl, hPz, hUz⟩; obtain ⟨hU1, hz1, _⟩ := h2 z hUz; clear hnx)
        | (go_at_call 55; refine (hps _ hPz).mono ?_; rintro e z2 ⟨hU2, _, rfl, rfl, hP2⟩; have hz2 := hz1.upd hU2 (by omega); have hfin := hfin _ (hU1.trans hU2) hP2)
        | (refine wpList_store_all rfl 27 (.tmp 2) (.tmp 19) rfl w.heap.size rfl (jsonV 1 false 0 [] none none 0 0 0 0) rfl 27 zeroJ hz2 (by kernel_rfl) rfl (by intro v hv; simp only [jsonV, List.mem_cons, List.not_mem_nil, or_false] at hv; rcases hv with rfl | rfl | rfl | rfl | rfl | rfl <;> rfl) ?_; intro z' hT))
      exact bodyPost_ret (results_cell_row (p := 2) (by kernel_rfl) _ z' w.heap.size 27 (jsonV 1 false 0 [] none none 0 0 0 0).toArray (0, 0) _ rfl hT.holds Tryd.underlying27 rfl (by kernel_rfl)) rfl (hfin z' hT)
  by_cases hc34 : hereP s.data.toList m = 34
  · have hc := hc34
    rw [hc] at hnx
    have hnx : Calls Tryd.prog 36 #[.pointer (some ⟨b, 0, none⟩)] (w.alloc (.cells zeroJ.toArray 27)) fun e w' => e = .returned (.int .u8 34) ∧ PAt w' b s m k ∧ Upd b (w.alloc (.cells zeroJ.toArray 27)) w' := hnx
    have hps : ∀ y, PAt y b s m k → Calls Tryd.prog 56 #[.pointer (some ⟨b, 0, none⟩)] y (Done b s k y (quoP s.data.toList m) strV) := fun y hy => quoted_any b s m k hml (by omega) y hy
    rw [show val2 s.data.toList inner m = (quoP s.data.toList m).bind fun l q => .ok (.mk 3 false 0 l [] []) q by unfold val2; rw [hc]; rfl]
    clear hlist hobj hc hp hml
    cases hr : quoP s.data.toList m with
    | bad q er =>
      rw [hr] at hps
      clear hr
      subst hN
      go_enter Tryd.func35, Tryd.ntmps35
      go_wp2_with (first
        | (go_at_call 36; refine hnx.mono ?_; rintro e z ⟨rfl, hPz, hUz⟩; obtain ⟨hU1, hz1, _⟩ := h2 z hUz; clear hnx)
        | (go_at_call 56; refine (hps _ hPz).mono ?_; rintro e z2 ⟨hU2, rfl⟩))
      exact ⟨rfl, hU1.trans hU2, rfl⟩
    | ok l q =>
      rw [hr] at hps
      show Calls _ _ _ _ (Done b s k w (.ok (.mk 3 false 0 l [] []) q) (jsV w))
      have hfin : ∀ z, Upd b w z → PAt z b s q k → ∀ z', Turned N z z' (jsonV 3 false 0 l none none 0 0 0 0) 27 → Done b s k w (.ok (.mk 3 false 0 l [] []) q) (jsV w) (.returned (.agg (jsonV 3 false 0 l none none 0 0 0 0).toArray)) z' := fun z hU hP => val_fin hN hbN hU hP (leaf_jat z _ _ _ _ _)
      clear hr
      subst hN
      go_enter Tryd.func35, Tryd.ntmps35
      go_wp2_with (first
        | (go_at_call 36; refine hnx.mono ?_; rintro e z ⟨rfl, hPz, hUz⟩; obtain ⟨hU1, hz1, _⟩ := h2 z hUz; clear hnx)
        | (go_at_call 56; refine (hps _ hPz).mono ?_; rintro e z2 ⟨hU2, _, rfl, rfl, hP2⟩; have hz2 := hz1.upd hU2 (by omega); have hfin := hfin _ (hU1.trans hU2) hP2)
        | (refine wpList_store_all rfl 27 (.tmp 2) (.tmp 24) rfl w.heap.size rfl (jsonV 3 false 0 l none none 0 0 0 0) rfl 27 zeroJ hz2 (by kernel_rfl) rfl (by intro v hv; simp only [jsonV, List.mem_cons, List.not_mem_nil, or_false] at hv; rcases hv with rfl | rfl | rfl | rfl | rfl | rfl <;> rfl) ?_; intro z' hT))
      exact bodyPost_ret (results_cell_row (p := 2) (by kernel_rfl) _ z' w.heap.size 27 (jsonV 3 false 0 l none none 0 0 0 0).toArray (0, 0) _ rfl hT.holds Tryd.underlying27 rfl (by kernel_rfl)) rfl (hfin z' hT)
  by_cases hc91 : hereP s.data.toList m = 91
  · have hc := hc91
    have hlt : m < s.size := here_lt (L := s.data.toList) (by rw [hc]; decide)
    rw [hc] at hnx
    have hnx : Calls Tryd.prog 36 #[.pointer (some ⟨b, 0, none⟩)] (w.alloc (.cells zeroJ.toArray 27)) fun e w' => e = .returned (.int .u8 91) ∧ PAt w' b s m k ∧ Upd b (w.alloc (.cells zeroJ.toArray 27)) w' := hnx
    have hps := fun y => hlist m y hlt
    rw [show val2 s.data.toList inner m = listP s.data.toList inner m by unfold val2; rw [hc]; rfl]
    clear hlist hobj hc hp hml
    cases hr : listP s.data.toList inner m with
    | bad q er =>
      rw [hr] at hps
      clear hr
      subst hN
      go_enter Tryd.func35, Tryd.ntmps35
      go_wp2_with (first
        | (go_at_call 36; refine hnx.mono ?_; rintro e z ⟨rfl, hPz, hUz⟩; obtain ⟨hU1, hz1, hG1⟩ := h2 z hUz; clear hnx)
        | (go_at_call 57; refine (hps _ hPz hG1).mono ?_; rintro e z2 ⟨hU2, rfl⟩))
      exact ⟨rfl, hU1.trans hU2, rfl⟩
    | ok j q =>
      rw [hr] at hps
      have hfin : ∀ z z2 v, Upd b w z → Holds z N zeroJ 27 → Upd b z z2 → jsV z j v z2 → PAt z2 b s q k → ∃ cs : List Value, v = .agg cs.toArray ∧ cs.length = 6 ∧ (∀ x ∈ cs, x.oneCell' = true) ∧ Holds z2 N zeroJ 27 ∧ ∀ z', Turned N z2 z' cs 27 → Done b s k w (.ok j q) (jsV w) (.returned (.agg cs.toArray)) z' := fun z z2 v hU hz hU2 hJ hP => by
        have hJ : JAt z2 (fun i => z.heap.size ≤ i) j v := hJ
        obtain ⟨cs, rfl, h6, h1⟩ := jat_cells hJ
        exact ⟨cs, rfl, h6, h1, hz.upd hU2 (by omega), val_fin hN hbN (hU.trans hU2) hP (hJ.mono fun i hi _ => ⟨Nat.lt_of_lt_of_le hz.lt hi, rfl⟩)⟩
      clear hr
      subst hN
      go_enter Tryd.func35, Tryd.ntmps35
      go_wp2_with (first
        | (go_at_call 36; refine hnx.mono ?_; rintro e z ⟨rfl, hPz, hUz⟩; obtain ⟨hU1, hz1, hG1⟩ := h2 z hUz; clear hnx)
        | (go_at_call 57; refine (hps _ hPz hG1).mono ?_; rintro e z2 ⟨hU2, v, rfl, hJ2, hP2⟩; obtain ⟨cs, rfl, h6, h1, hz2, hfin⟩ := hfin z z2 v hU1 hz1 hU2 hJ2 hP2)
        | (refine wpList_store_all rfl 27 (.tmp 2) (.tmp 28) rfl w.heap.size rfl cs rfl 27 zeroJ hz2 (by rw [h6]; kernel_rfl) h6.symm h1 ?_; intro z' hT))
      exact bodyPost_ret (results_cell_row (p := 2) (by kernel_rfl) _ z' w.heap.size 27 cs.toArray (0, 0) _ rfl hT.holds Tryd.underlying27 rfl (by rw [show cs.toArray.size = 6 by simpa using h6]; kernel_rfl)) rfl (hfin z' hT)
  by_cases hc123 : hereP s.data.toList m = 123
  · have hc := hc123
    have hlt : m < s.size := here_lt (L := s.data.toList) (by rw [hc]; decide)
    rw [hc] at hnx
    have hnx : Calls Tryd.prog 36 #[.pointer (some ⟨b, 0, none⟩)] (w.alloc (.cells zeroJ.toArray 27)) fun e w' => e = .returned (.int .u8 123) ∧ PAt w' b s m k ∧ Upd b (w.alloc (.cells zeroJ.toArray 27)) w' := hnx
    have hps := fun y => hobj m y hlt
    rw [show val2 s.data.toList inner m = objP s.data.toList inner m by unfold val2; rw [hc]; rfl]
    clear hlist hobj hc hp hml
    cases hr : objP s.data.toList inner m with
    | bad q er =>
      rw [hr] at hps
      clear hr
      subst hN
      go_enter Tryd.func35, Tryd.ntmps35
      go_wp2_with (first
        | (go_at_call 36; refine hnx.mono ?_; rintro e z ⟨rfl, hPz, hUz⟩; obtain ⟨hU1, hz1, hG1⟩ := h2 z hUz; clear hnx)
        | (go_at_call 58; refine (hps _ hPz hG1).mono ?_; rintro e z2 ⟨hU2, rfl⟩))
      exact ⟨rfl, hU1.trans hU2, rfl⟩
    | ok j q =>
      rw [hr] at hps
      have hfin : ∀ z z2 v, Upd b w z → Holds z N zeroJ 27 → Upd b z z2 → jsV z j v z2 → PAt z2 b s q k → ∃ cs : List Value, v = .agg cs.toArray ∧ cs.length = 6 ∧ (∀ x ∈ cs, x.oneCell' = true) ∧ Holds z2 N zeroJ 27 ∧ ∀ z', Turned N z2 z' cs 27 → Done b s k w (.ok j q) (jsV w) (.returned (.agg cs.toArray)) z' := fun z z2 v hU hz hU2 hJ hP => by
        have hJ : JAt z2 (fun i => z.heap.size ≤ i) j v := hJ
        obtain ⟨cs, rfl, h6, h1⟩ := jat_cells hJ
        exact ⟨cs, rfl, h6, h1, hz.upd hU2 (by omega), val_fin hN hbN (hU.trans hU2) hP (hJ.mono fun i hi _ => ⟨Nat.lt_of_lt_of_le hz.lt hi, rfl⟩)⟩
      clear hr
      subst hN
      go_enter Tryd.func35, Tryd.ntmps35
      go_wp2_with (first
        | (go_at_call 36; refine hnx.mono ?_; rintro e z ⟨rfl, hPz, hUz⟩; obtain ⟨hU1, hz1, hG1⟩ := h2 z hUz; clear hnx)
        | (go_at_call 58; refine (hps _ hPz hG1).mono ?_; rintro e z2 ⟨hU2, v, rfl, hJ2, hP2⟩; obtain ⟨cs, rfl, h6, h1, hz2, hfin⟩ := hfin z z2 v hU1 hz1 hU2 hJ2 hP2)
        | (refine wpList_store_all rfl 27 (.tmp 2) (.tmp 32) rfl w.heap.size rfl cs rfl 27 zeroJ hz2 (by rw [h6]; kernel_rfl) h6.symm h1 ?_; intro z' hT))
      exact bodyPost_ret (results_cell_row (p := 2) (by kernel_rfl) _ z' w.heap.size 27 cs.toArray (0, 0) _ rfl hT.holds Tryd.underlying27 rfl (by rw [show cs.toArray.size = 6 by simpa using h6]; kernel_rfl)) rfl (hfin z' hT)
  have g110 : (((hereP s.data.toList m).toNat : Int) == 110) = false := u8_ne (n := 110) (by decide) hc110
  have g116 : (((hereP s.data.toList m).toNat : Int) == 116) = false := u8_ne (n := 116) (by decide) hc116
  have g102 : (((hereP s.data.toList m).toNat : Int) == 102) = false := u8_ne (n := 102) (by decide) hc102
  have g34 : (((hereP s.data.toList m).toNat : Int) == 34) = false := u8_ne (n := 34) (by decide) hc34
  have g91 : (((hereP s.data.toList m).toNat : Int) == 91) = false := u8_ne (n := 91) (by decide) hc91
  have g123 : (((hereP s.data.toList m).toNat : Int) == 123) = false := u8_ne (n := 123) (by decide) hc123
  have hps : ∀ y, PAt y b s m k → Glob y → Calls Tryd.prog 59 #[.pointer (some ⟨b, 0, none⟩)] y (Done b s k y (numP s.data.toList m) intV1) := fun y hy hg => number_any b s m k hml (by omega) y hy hg hb
  rw [show val2 s.data.toList inner m = (numP s.data.toList m).bind fun v q => .ok (.mk 2 false v [] [] []) q by unfold val2; rw [if_neg hc110, if_neg hc116, if_neg hc102, if_neg hc34, if_neg hc91, if_neg hc123]]
  clear hlist hobj hp hml hc110 hc116 hc102 hc34 hc91 hc123
  cases hr : numP s.data.toList m with
  | bad q er =>
    rw [hr] at hps
    clear hr
    generalize hereP s.data.toList m = c at *
    subst hN
    go_enter Tryd.func35, Tryd.ntmps35
    go_wp2_with (first
      | (go_at_call 36; refine hnx.mono ?_; rintro e z ⟨rfl, hPz, hUz⟩; obtain ⟨hU1, hz1, hG1⟩ := h2 z hUz; clear hnx)
      | (go_at_call 59; refine (hps _ hPz hG1).mono ?_; rintro e z2 ⟨hU2, rfl⟩))
    exact ⟨rfl, hU1.trans hU2, rfl⟩
  | ok n q =>
    rw [hr] at hps
    show Calls _ _ _ _ (Done b s k w (.ok (.mk 2 false n [] [] []) q) (jsV w))
    have hfin : ∀ z, Upd b w z → PAt z b s q k → ∀ z', Turned N z z' (jsonV 2 false n [] none none 0 0 0 0) 27 → Done b s k w (.ok (.mk 2 false n [] [] []) q) (jsV w) (.returned (.agg (jsonV 2 false n [] none none 0 0 0 0).toArray)) z' := fun z hU hP => val_fin hN hbN hU hP (leaf_jat z _ _ _ _ _)
    clear hr
    generalize hereP s.data.toList m = c at *
    subst hN
    go_enter Tryd.func35, Tryd.ntmps35
    go_wp2_with (first
      | (go_at_call 36; refine hnx.mono ?_; rintro e z ⟨rfl, hPz, hUz⟩; obtain ⟨hU1, hz1, hG1⟩ := h2 z hUz; clear hnx)
      | (go_at_call 59; refine (hps _ hPz hG1).mono ?_; rintro e z2 ⟨hU2, _, rfl, rfl, hP2⟩; have hz2 := hz1.upd hU2 (by omega); have hfin := hfin _ (hU1.trans hU2) hP2)
      | (refine wpList_store_all rfl 27 (.tmp 2) (.tmp 35) rfl w.heap.size rfl (jsonV 2 false n [] none none 0 0 0 0) rfl 27 zeroJ hz2 (by kernel_rfl) rfl (by intro v hv; simp only [jsonV, List.mem_cons, List.not_mem_nil, or_false] at hv; rcases hv with rfl | rfl | rfl | rfl | rfl | rfl <;> rfl) ?_; intro z' hT))
    exact bodyPost_ret (results_cell_row (p := 2) (by kernel_rfl) _ z' w.heap.size 27 (jsonV 2 false n [] none none 0 0 0 0).toArray (0, 0) _ rfl hT.holds Tryd.underlying27 rfl (by kernel_rfl)) rfl (hfin z' hT)
end Go.Proofs.YtogippkapadolaaDoor
