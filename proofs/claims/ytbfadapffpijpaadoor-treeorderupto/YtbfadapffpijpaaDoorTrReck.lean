/- What package tree's reckon does. -/
import Derived.Test.YtbfadapffpijpaaDoorTrReckP
import Derived.Test.YtbfadapffpijpaaDoorTrHash
import Derived.Deep.RegionWith
namespace Go.Proofs.YtbfadapffpijpaaDoor
open Go.RowKit Go.Maps Go.WideMaps

theorem run_store32 (w : World) (b off : Nat) (cs : List Value) (old : List Value) (t : TypeId) (h : Holds w b old t) (hle : off + 32 ≤ old.length) (h32 : cs.length = 32) (h1 : ∀ v ∈ cs, v.oneCell' = true) : (storeCells ⟨b, off, none⟩ cs).run Tryd.prog w = .ok () (w.setCells b off cs) :=
  run_store_there w b off _ (h32 ▸ h.there off 32 hle) h1
theorem lies_part {w : World} {b : Nat} {mv : List Value} {T : Tr} (hm : mv.length = 256) (hz : T.Sz) (h : Holds w b (treeV mv T) 32) {j : Nat} : Lies w b (256 + 512 * j) ((T.sums.drop (16 * j)).take 16) := by
  intro i l hl u v hv
  have hs := hz.sums
  rw [List.getElem?_take] at hl
  by_cases hi : i < 16
  · rw [if_pos hi, List.getElem?_drop] at hl
    have h32 : l.length = 32 := hz.s32 l (List.mem_of_getElem? hl)
    have hu : u < 32 := by have := (List.getElem?_eq_some_iff.1 hv).1; rw [List.length_map, h32] at this; exact this
    have := h.at (256 + 32 * (16 * j + i) + u) v ((at_sum hm hz hl hu).trans hv)
    rw [show 256 + 512 * j + i * 32 + u = 256 + 32 * (16 * j + i) + u by omega]
    exact this
  · rw [if_neg hi] at hl; cases hl
/-- A leaf's hash is laid down, and the leaf is clean. -/
theorem lay_sum {w : World} {b k : Nat} {mv : List Value} {T : Tr} (hm : mv.length = 256) (hz : T.Sz) (h : Holds w b (treeV mv T) 32) (hk : k < 256) (s : List UInt8) (h32 : s.length = 32) :
    (storeCells ⟨b, 256 + k * 32, none⟩ (s.map byteV)).run Tryd.prog w = .ok () (w.setCells b (256 + k * 32) (s.map byteV)) ∧ (w.setCells b (256 + k * 32) (s.map byteV)).cell? ⟨b, 8448 + k, none⟩ = some (.bool (T.dirty.getD k false)) ∧ (w.setCells b (256 + k * 32) (s.map byteV)).frozen? ⟨b, 8448 + k, none⟩ = false ∧
    Holds ((w.setCells b (256 + k * 32) (s.map byteV)).setCell ⟨b, 8448 + k, none⟩ (.bool false)) b (treeV mv { T with sums := T.sums.set k s, dirty := T.dirty.set k false }) 32 ∧ TUpd (Is b) w ((w.setCells b (256 + k * 32) (s.map byteV)).setCell ⟨b, 8448 + k, none⟩ (.bool false)) := by
  have hl := treeV_len hm hz
  have hs : (s.map byteV).length = 32 := by rw [List.length_map, h32]
  have hT := turned_setCells (t := 32) b (s.map byteV) (256 + k * 32) w _ h (by rw [hs, hl]; omega)
  rw [show 256 + k * 32 = 256 + 32 * k by omega, over_sum hm hz hk s h32, show 256 + 32 * k = 256 + k * 32 by omega] at hT
  have hz1 : ({ T with sums := T.sums.set k s } : Tr).Sz := ⟨by simpa using hz.sums, fun x hx => by
    rcases List.mem_or_eq_of_mem_set hx with hx | rfl
    · exact hz.s32 x hx
    · exact h32, hz.dirty, hz.br, hz.b32, hz.jn⟩
  have h2 := hT.holds.set (8448 + k) (.bool false)
  rw [set_dirty hm hz1 hk] at h2
  exact ⟨run_store32 w b _ _ _ 32 h (by rw [hl]; omega) hs (byteV_one _), hT.holds.dirtyAt hm hz1 rfl hk, hT.holds.frozen _, h2, ((TUpd.refl (Is b) w).turned hT rfl).set b _ _ rfl⟩
/-- A branch's hash is laid down, and holds. -/
theorem lay_br {w : World} {b k : Nat} {mv : List Value} {T : Tr} (hm : mv.length = 256) (hz : T.Sz) (h : Holds w b (treeV mv T) 32) (hk : k < 16) (s : List UInt8) (h32 : s.length = 32) :
    (storeCells ⟨b, 8704 + k * 32, none⟩ (s.map byteV)).run Tryd.prog w = .ok () (w.setCells b (8704 + k * 32) (s.map byteV)) ∧ (w.setCells b (8704 + k * 32) (s.map byteV)).cell? ⟨b, 9216 + k, none⟩ = some (.bool (T.jn.getD k false)) ∧ (w.setCells b (8704 + k * 32) (s.map byteV)).frozen? ⟨b, 9216 + k, none⟩ = false ∧
    Holds ((w.setCells b (8704 + k * 32) (s.map byteV)).setCell ⟨b, 9216 + k, none⟩ (.bool true)) b (treeV mv { T with br := T.br.set k s, jn := T.jn.set k true }) 32 ∧ TUpd (Is b) w ((w.setCells b (8704 + k * 32) (s.map byteV)).setCell ⟨b, 9216 + k, none⟩ (.bool true)) := by
  have hl := treeV_len hm hz
  have hs : (s.map byteV).length = 32 := by rw [List.length_map, h32]
  have hT := turned_setCells (t := 32) b (s.map byteV) (8704 + k * 32) w _ h (by rw [hs, hl]; omega)
  rw [show 8704 + k * 32 = 8704 + 32 * k by omega, over_br hm hz hk s h32, show 8704 + 32 * k = 8704 + k * 32 by omega] at hT
  have hz1 : ({ T with br := T.br.set k s } : Tr).Sz := ⟨hz.sums, hz.s32, hz.dirty, by simpa using hz.br, fun x hx => by
    rcases List.mem_or_eq_of_mem_set hx with hx | rfl
    · exact hz.b32 x hx
    · exact h32, hz.jn⟩
  have h2 := hT.holds.set (9216 + k) (.bool true)
  rw [set_jn hm hz1 hk] at h2
  exact ⟨run_store32 w b _ _ _ 32 h (by rw [hl]; omega) hs (byteV_one _), hT.holds.jnAt hm hz1 rfl hk, hT.holds.frozen _, h2, ((TUpd.refl (Is b) w).turned hT rfl).set b _ _ rfl⟩
set_option maxHeartbeats 4000000 in
set_option maxRecDepth 100000 in
theorem reckon_some (N b : Nat) (mv : List Value) (T : Tr) (hf : Fit T 536870912) (w : World) (hb2 : 2 ≤ b) (hL : Laid w) (h : TreeAt w N b mv T) :
    Calls Tryd.prog 27 #[.pointer (some ⟨b, 0, none⟩)] w fun e w' => e = .returned (.tuple #[]) ∧ TreeAt w' N b mv (reckT T) ∧ TUpd (Is b) w w' := by
  have hlen := h.len
  have hok := h.ok
  have hlv := hok.lv
  have hrg : w.rangeAt b 0 mv := h.holds.range 0 mv (fun j v hv => by
    have hj : j < mv.length := (List.getElem?_eq_some_iff.1 hv).1
    rw [Nat.zero_add, at_map hlen (by omega)]; exact hv)
  have hIx : Hid (∀ (W : World) (k : Nat), k < 256 → (Instr.index 25 (.agg mv.toArray) (.int .i64 (k : Int))).run Tryd.prog W = .ok (mv.getD k (.map none)) W) := fun W k hk => run_index_one W 25 24 256 und25 (agg24 W) siz24 mv k hk _ (by rw [List.getD_eq_getElem?_getD, List.getElem?_eq_getElem (by omega)]; rfl)
  have hMaps : Hid (∀ (W : World) (k : Nat), k < 256 → TUpd (Is b) w W → MapIs W (mv.getD k (.map none)) (leafAt T k)) := fun W k hk hu => (h.maps k hk).same (fun m e => hu.block m (h.lt m (.inr (List.mem_of_getElem? (getD_mem e)))) (fun q => h.bm (q ▸ List.mem_of_getElem? (getD_mem e))))
  have hHash : Hid (∀ (W : World) (k : Nat), k < 256 → TUpd (Is b) w W → Calls Tryd.prog 35 #[mv.getD k (.map none)] W fun e w' => e = .returned (.agg ((leafH (leafAt T k)).map byteV).toArray) ∧ Below W.heap.size W w') := fun W k hk hu =>
    thash_any _ _ (hok.rise _ (leafAt_mem hlv hk)) (hok.v32 _ (leafAt_mem hlv hk)) (hf _ (leafAt_mem hlv hk)) W (hL.tupd hu (fun i (e : i = b) => e ▸ hb2)) (hMaps.out W k hk hu)
  have hJoin : Hid (∀ (W : World) (j : Nat), j < 16 → TUpd (Is b) w W → Holds W b (treeV mv (reck2 T j)) 32 → ∀ cap, Calls Tryd.prog 28 #[.slice (some ⟨b, 256 + 512 * j, none⟩) 16 cap] W fun e w' => e = .returned (.agg ((brH (allH T) j).map byteV).toArray) ∧ Below W.heap.size W w') := fun W j hj hu hH cap => by
    have hz := reck2_sz hok (j := j) (by omega)
    have hl := lies_part hlen hz hH (j := j)
    have e : ((allH T).drop (16 * j)).take 16 = (((reck2 T j).sums).drop (16 * j)).take 16 := rfl
    have hlen16 : ((((reck2 T j).sums).drop (16 * j)).take 16).length = 16 := by
      have := hz.sums
      rw [List.length_take, List.length_drop]; omega
    have := join_some _ (fun l hl => hz.s32 l (List.mem_of_mem_drop (List.mem_of_mem_take hl))) (by rw [hlen16]; omega) b (256 + 512 * j) cap W hH.lt hl (hL.tupd hu (fun i (e : i = b) => e ▸ hb2))
    rw [hlen16] at this
    exact this
  have hAt : Hid (TreeAt w N b mv T) := h
  have HO : Hid T.Ok := hok
  have hH0 := h.holds
  rw [← reck1_zero T] at hH0
  clear h hL hf hlv hok
  go_enter Tryd.func27, Tryd.ntmps27
  go_wp2_with (refine wpList_load_part rfl 25 (.tmp 7) rfl b 0 rfl mv _ hrg und25 rfl (by rw [hlen]; exact siz25) ?_)
  go_loopw [9] (fun c wr => ∃ k : Nat, k ≤ 256 ∧ c = .int .i64 (k : Int) ∧ Holds wr b (treeV mv (reck1 T k)) 32 ∧ TUpd (Is b) w wr) (fun c _ => 256 - (intOf c).toNat)
  case atStart => exact ⟨0, by omega, rfl, hH0, TUpd.refl _ _⟩
  case round =>
    clear hrg hH0
    obtain ⟨k, hk, rfl, hH, hU⟩ := hrel
    by_cases hlt : k < 256
    · have hz := reck1_sz HO.out (k := k) (by omega)
      have cd := hH.dirtyAt hlen hz (i := k) rfl hlt
      rw [reck1_dirty hlt] at cd
      have hix := hIx.out wr k hlt
      have i0 : (0 : Int) ≤ (k : Int) := by omega
      have i1 : (k : Int) < 256 := by omega
      have h2 := hHash.out wr k hlt hU
      obtain ⟨vk, hvk⟩ : ∃ vk, mv.getD k (.map none) = vk := ⟨_, rfl⟩
      rw [hvk] at hix
      cases hd : T.dirty.getD k false with
      | false =>
        rw [hd] at cd
        rw [reck1_noop HO.out hlt hd] at hH
        go_wp2
        exact ⟨⟨k + 1, by omega, by go_num, hH, hU⟩, by simp [intOf]; omega⟩
      | true =>
        rw [hd] at cd
        have hstep := reck1_step HO.out hlt
        obtain ⟨s, hs⟩ : ∃ s, leafH (leafAt T k) = s := ⟨_, rfl⟩
        have h32 : s.length = 32 := hs ▸ leafH_len _
        have hCall : Hid (∀ W, TUpd (Is b) w W → Calls Tryd.prog 35 #[vk] W fun e w' => e = .returned (.agg (s.map byteV).toArray) ∧ Below W.heap.size W w') := fun W hW => by
          have := hHash.out W k hlt hW
          rw [hvk, hs] at this
          exact this
        have HST : Hid _ := hstep
        rw [hs] at HST
        have HH : Hid (Holds wr b (treeV mv (reck1 T k)) 32) := hH
        have HU : Hid (TUpd (Is b) w wr) := hU
        have hbl := hH.lt
        clear hstep h2 hH hU
        go_wp2_with fail
        go_region_with (go_at_call 35; refine (hCall.out _ HU.out.drew).mono ?_; rintro e w2 ⟨rfl, b2⟩; have H2 : Holds w2 b (treeV mv (reck1 T k)) 32 := HH.out.drew.below b2 hbl; obtain ⟨r1, r2, r3, r4, r5⟩ := lay_sum hlen hz H2 hlt s h32; have R4 : Hid (Holds ((w2.setCells b (256 + k * 32) (s.map byteV)).setCell ⟨b, 8448 + k, none⟩ (.bool false)) b (treeV mv (reck1 T (k + 1))) 32) := HST.out ▸ r4; have R5 : Hid (TUpd (Is b) w ((w2.setCells b (256 + k * 32) (s.map byteV)).setCell ⟨b, 8448 + k, none⟩ (.bool false))) := (HU.out.drew.trans (TUpd.ofBelow b2)).trans r5; clear r4 r5 H2)
        all_goals
          go_wp2
          exact ⟨⟨k + 1, by omega, by go_num, R4.out, R5.out⟩, by simp [intOf]; omega⟩
    · have i1 : ¬ (k : Int) < 256 := by omega
      have HH0 : Hid (Holds wr b (treeV mv (reck2 T 0)) 32) := by
        have ek : k = 256 := by omega
        subst ek
        rw [reck2_zero HO.out] at hH
        exact hH
      have HU0 : Hid (TUpd (Is b) w wr) := hU
      clear hH hU
      go_wp2_with fail
      go_loopw [32] (fun c wr => ∃ j : Nat, j ≤ 16 ∧ c = .int .i64 (j : Int) ∧ Holds wr b (treeV mv (reck2 T j)) 32 ∧ TUpd (Is b) w wr) (fun c _ => 16 - (intOf c).toNat)
      case atStart => exact ⟨0, by omega, rfl, HH0.out, HU0.out⟩
      case round =>
        clear HH0 HU0
        obtain ⟨j, hj, rfl, hH, hU⟩ := hrel
        by_cases hlt : j < 16
        · have hz := reck2_sz HO.out (j := j) (by omega)
          have cd := hH.jnAt hlen hz (i := j) rfl hlt
          rw [reck2_jn hlt] at cd
          have i0 : (0 : Int) ≤ (j : Int) := by omega
          have i1 : (j : Int) < 16 := by omega
          cases hd : T.jn.getD j false with
          | true =>
            rw [hd] at cd
            rw [reck2_noop HO.out hlt hd] at hH
            go_wp2
            exact ⟨⟨j + 1, by omega, by go_num, hH, hU⟩, by simp [intOf]; omega⟩
          | false =>
            rw [hd] at cd
            have hstep := reck2_step HO.out hlt
            obtain ⟨s, hs⟩ : ∃ s, brH (allH T) j = s := ⟨_, rfl⟩
            have h32 : s.length = 32 := hs ▸ brH_len _ _
            have hBel : Hid (∀ W, Calls Tryd.prog 29 #[.pointer (some ⟨b, 0, none⟩), .int .i64 (j : Int)] W fun e w' => e = .returned (.slice (some ⟨b, 256 + 512 * j, none⟩) 16 (256 - 16 * j)) ∧ w' = W) := fun W => below_any b j hlt W
            have hCall : Hid (∀ W, TUpd (Is b) w W → Holds W b (treeV mv (reck2 T j)) 32 → ∀ cap, Calls Tryd.prog 28 #[.slice (some ⟨b, 256 + 512 * j, none⟩) 16 cap] W fun e w' => e = .returned (.agg (s.map byteV).toArray) ∧ Below W.heap.size W w') := fun W hW hX cap => by
              have := hJoin.out W j hlt hW hX cap
              rw [hs] at this
              exact this
            have HST : Hid _ := hstep
            rw [hs] at HST
            have HH : Hid (Holds wr b (treeV mv (reck2 T j)) 32) := hH
            have HU : Hid (TUpd (Is b) w wr) := hU
            have hbl := hH.lt
            clear hstep hH hU hs
            go_wp2_with fail
            go_region_with (first
              | (go_at_call 29; refine (hBel.out _).mono ?_; rintro e w1 ⟨rfl, rfl⟩)
              | (go_at_call 28; refine (hCall.out _ HU.out.drew HH.out.drew _).mono ?_; rintro e w2 ⟨rfl, b2⟩; have H2 : Holds w2 b (treeV mv (reck2 T j)) 32 := HH.out.drew.below b2 hbl; obtain ⟨r1, r2, r3, r4, r5⟩ := lay_br hlen hz H2 hlt s h32; have R4 : Hid (Holds ((w2.setCells b (8704 + j * 32) (s.map byteV)).setCell ⟨b, 9216 + j, none⟩ (.bool true)) b (treeV mv (reck2 T (j + 1))) 32) := HST.out ▸ r4; have R5 : Hid (TUpd (Is b) w ((w2.setCells b (8704 + j * 32) (s.map byteV)).setCell ⟨b, 9216 + j, none⟩ (.bool true))) := (HU.out.drew.trans (TUpd.ofBelow b2)).trans r5; clear r4 r5 H2))
            all_goals
              go_wp2
              exact ⟨⟨j + 1, by omega, by go_num, R4.out, R5.out⟩, by simp [intOf]; omega⟩
        · have i1 : ¬ (j : Int) < 16 := by omega
          have ej : j = 16 := by omega
          rw [ej, reck2_all HO.out] at hH
          clear ej
          have hFin : Hid (TreeAt wr N b mv (reckT T)) := hAt.out.rest hU hH (reckT_ok HO.out) rfl
          have HU : Hid (TUpd (Is b) w wr) := hU
          clear hH hU
          go_wp2
          exact bodyPost_end (results_none (by kernel_rfl) _ _ _) rfl ⟨rfl, hFin.out, HU.out⟩
end Go.Proofs.YtbfadapffpijpaaDoor
