/- PackBack's walk. -/
import Derived.Test.YtlbdlipdhhpgmaaPlain
import Derived.Test.YtlbdlipdhhpgmaaAwake
import Derived.Test.YtlbdlipdhhpgmaaLaid
import Derived.Deep.RegionWith
import Derived.Laws.StructEq
namespace Go.Proofs.Ytlbdlipdhhpgmaa
open Go.RowKit

/-- Taking up a thing whose bytes stand first: it is the thing as normal has it. -/
theorem took_back (b : Nat) (u : ByteArray) (hs : u.size < 9223372036854775808) (t : Th) (hok : t.Ok) (h5 : ¬ t.kind = 5) (r : List UInt8) (hu : u.data.toList = thB t ++ r) (w : World) (hr : Rd w b u 0) :
    Calls Try.prog 19 #[.pointer (some ⟨b, 0, none⟩), .agg #[.int .i64 t.kind, .int .i64 t.least, .int .u64 (t.n : Int), .string t.s]] w fun e w' => e = .returned (.agg #[.int .i64 t.kind, .int .i64 t.least, .int .u64 (norN t.kind t.n), .string (norS t.kind t.s)]) ∧ (∃ u', Rd w' b u' 0 ∧ u'.data.toList = r) ∧ Upd b w w' := by
  obtain ⟨e1, e2, e3, e4⟩ := back_th u t hok r hu
  have := took_th b u hs t h5 w hr
  rw [e1, e2, e3] at this
  refine this.mono fun e w' h => ?_
  obtain ⟨h1, h2, h3⟩ := h
  rw [restR, if_pos rfl] at h2
  exact ⟨h1, ⟨_, h2, e4⟩, h3⟩
theorem took_way (b : Nat) (ts : List Th) (C k : Nat) (u : ByteArray) (E : Int) (t : Th) (ht : ts[k]? = some t) (hok : t.Ok) (h5 : ¬ t.kind = 5) (hw : OnWay ts C k u E) (hl : (ts.flatMap thB).length ≤ 100000000) (w : World) (hr : Rd w b u E) :
    Calls Try.prog 19 #[.pointer (some ⟨b, 0, none⟩), .agg #[.int .i64 t.kind, .int .i64 t.least, .int .u64 (t.n : Int), .string t.s]] w fun e w' => (∃ c0 c1 c2 c3, e = .returned (.agg #[c0, c1, c2, c3])) ∧ (∃ u' E', Rd w' b u' E' ∧ OnWay ts C (k + 1) u' E') ∧ Upd b w w' := by
  rcases hw with ⟨rfl, h1, h2⟩ | rfl
  · have hlen : u.size ≤ (ts.flatMap thB).length := by
      show u.data.toList.length ≤ _
      rw [h2, List.length_take]
      have e : (ts.flatMap thB).length = ((ts.take k).flatMap thB).length + ((ts.drop k).flatMap thB).length := by
        rw [← List.length_append, ← List.flatMap_append, List.take_append_drop]
      omega
    refine (took_th b u (by omega) t h5 w hr).mono fun e w' h => ?_
    obtain ⟨e1, e2, e3⟩ := h
    exact ⟨⟨_, _, _, _, e1⟩, ⟨_, _, e2, OnWay.step (.inl ⟨rfl, h1, h2⟩) ht hok⟩, e3⟩
  · refine (took_err b u 10 (by decide) _ _ _ _ w hr).mono fun e w' h => ?_
    obtain ⟨e1, e2, e3⟩ := h
    exact ⟨⟨_, _, _, _, e1⟩, ⟨_, _, e2, .inr rfl⟩, e3⟩

set_option maxHeartbeats 6400000 in
set_option maxRecDepth 100000 in
theorem packBack_walk (ts : List Th) (hok : ∀ t ∈ ts, t.Ok) (a1 : Option Addr) (c1 : Nat) (at_ : Int) (hat : -9223372036854775808 ≤ at_ ∧ at_ < 9223372036854775808) (w : World) (h1 : ThingsAt w a1 ts)
    (hT : ((ts.map plT).flatMap thB).length ≤ 100000000) (l1 : ts.length ≤ 100000000) :
    Calls Try.prog 4 #[.slice a1 ts.length c1, .int .i64 at_] w fun e w' => e = .returned (.bool true) ∧ Below w.heap.size w w' := by
  obtain ⟨N, hw⟩ : ∃ N, w.heap.size = N := ⟨_, rfl⟩
  have HW : Hid (w.heap.size = N) := hw
  rw [hw]
  clear hw
  have hplain : Hid (∀ W, ThingsAt W a1 ts → Calls Try.prog 17 #[.slice a1 ts.length c1] W fun e w' => ∃ v, e = .returned v ∧ w'.ownsRow W.heap.size 33 4 v ts.length ((ts.map plT).flatMap thV) ∧ Below W.heap.size W w') := fun W hW => plain_any ts a1 c1 W hW l1
  have H1 : Hid (ThingsAt w a1 ts) := h1
  obtain ⟨us, hus⟩ : ∃ us, ts.map plT = us := ⟨_, rfl⟩
  have hlen : us.length = ts.length := by rw [← hus, List.length_map]
  have huok : Hid (∀ t ∈ us, t.Ok ∧ ¬ t.kind = 5) := fun t ht => by
    rw [← hus] at ht
    obtain ⟨x, hx, rfl⟩ := List.mem_map.1 ht
    exact ⟨plT_ok (hok x hx), plT_kind x⟩
  rw [hus] at hplain hT
  obtain ⟨m, hm⟩ : ∃ m, ts.length = m := ⟨_, rfl⟩
  rw [hm] at hplain hlen l1 ⊢
  have M : Hid (us.length = m) := hlen
  have HT : Hid ((us.flatMap thB).length ≤ 100000000) := hT
  clear hm hlen hus hok hT h1
  go_enter Try.func4, Try.ntmps4
  go_wp2_with (first
    | (go_at_call 9; refine (awake_any _).mono ?_; rintro e w1 ⟨rfl, b1⟩; rw [HW.out] at b1; obtain ⟨B, hB⟩ : ∃ B, w1.heap.size = B := ⟨_, rfl⟩; have hNB : N ≤ B := (by have := b1.size; have := HW.out; omega); have hW1 : Hid (Wr (w1.alloc (.cells #[.slice none 0 0] 29)) B []) := (hB ▸ wr_new w1); have b2 : Hid (Below N w (w1.alloc (.cells #[.slice none 0 0] 29))) := b1.alloc (by omega) _; have hsz2 : Hid ((w1.alloc (.cells #[.slice none 0 0] 29)).heap.size = B + 1) := (by show (w1.alloc (.cells #[.slice none 0 0] 29)).heap.size = B + 1; simp [hB]))
    | (go_at_call 17; refine (hplain.out _ (H1.out.below HW.out b2.out)).mono ?_; rw [hsz2.out]; rintro e w3 ⟨v, rfl, ho3, b3⟩; obtain ⟨a3, c3, rfl, hR3⟩ := row33_of ho3 M.out; clear ho3; obtain ⟨hi, hhi⟩ : ∃ hi, w3.heap.size = hi := ⟨_, rfl⟩; rw [hhi] at hR3; have hWr3 : Wr w3 B [] := hW1.out.below (by rw [hsz2.out]; exact b3); have hb3 : Below N w w3 := b2.out.trans (b3.mono (by omega)); have hhB : B + 1 ≤ hi := (by have := b3.size; rw [hsz2.out] at this; omega)))
  go_loopw [7] (fun c wr => ∃ k : Nat, k ≤ m ∧ c = .int .i64 (k : Int) ∧ Wr wr B ((us.take k).flatMap thB) ∧ RowAt wr B hi a3 us ∧ hi ≤ wr.heap.size ∧ Below N w wr) (fun c _ => m - (intOf c).toNat)
  case atStart => exact ⟨0, by omega, rfl, hWr3, hR3, by omega, hb3⟩
  case round =>
    clear hWr3 hR3 hb3 b3 b1 hB hhi
    obtain ⟨k, hk, rfl, hW, hR, hH, hb⟩ := hrel
    by_cases hlt : k < m
    · obtain ⟨t, ht⟩ : ∃ t, us[k]? = some t := ⟨us[k]'(by have := M.out; omega), List.getElem?_eq_getElem _⟩
      obtain ⟨ho, _⟩ := huok.out t (List.mem_of_getElem? ht)
      have hflat := take_flat thB us k t ht
      have hle := take_flat_len thB us (k + 1)
      rw [hflat, List.length_append] at hle
      have hle2 := HT.out
      have HR : Hid (RowAt wr B hi a3 us) := hR
      rcases hR with h0 | ⟨g, o, rfl, _, _, hL⟩
      · have := M.out; omega
      have hlay : Hid (Calls Try.prog 10 #[.pointer (some ⟨B, 0, none⟩), .agg #[.int .i64 t.kind, .int .i64 t.least, .int .u64 (t.n : Int), .string t.s]] wr fun e w' => e = .returned (.tuple #[]) ∧ Wr w' B ((us.take (k + 1)).flatMap thB) ∧ WUpd B wr w') := by
        have := lay_some B _ t.kind t.least t.n ho.n t.s wr hW (by have : (thB t).length = (thL t.kind t.n t.s).length := rfl; omega)
        rw [hflat]
        exact this
      have d0 := hL.cell k t ht 0 _ rfl
      have d1 := hL.cell k t ht 1 _ rfl
      have d2 := hL.cell k t ht 2 _ rfl
      have d3 := hL.cell k t ht 3 _ rfl
      simp only [Nat.add_zero] at d0
      clear hle hle2 hflat hW hL ho ht
      obtain ⟨kd, ls, n, s⟩ := t
      simp only at d0 d1 d2 d3 hlay
      go_wp2_with (go_at_call 10; refine hlay.out.mono ?_; rintro e w3 ⟨rfl, h3, u3⟩)
      exact ⟨⟨k + 1, by omega, rfl, h3, HR.out.wupd u3, by have := u3.size; omega, hb.trans (u3.below hNB)⟩, by simp; omega⟩
    · have htk : us.take k = us := List.take_of_length_le (by have := M.out; omega)
      rw [htk] at hW
      clear htk hk
      have hQ : (strL (us.flatMap thB)).data.toList = us.flatMap thB := strL_list _
      have hQz : (strL (us.flatMap thB)).size = (us.flatMap thB).length := strL_size _
      have c16 : Hid (Calls Try.prog 16 #[.pointer (some ⟨B, 0, none⟩)] wr fun e w' => e = .returned (.string (strL (us.flatMap thB))) ∧ w' = wr) := bytes_some B _ wr hW
      obtain ⟨Q, hq⟩ : ∃ Q, strL (us.flatMap thB) = Q := ⟨_, rfl⟩
      rw [hq] at hQ hQz c16
      have HQ : Hid (Q.data.toList = us.flatMap thB) := hQ
      have HQz : Hid (Q.size = (us.flatMap thB).length) := hQz
      clear hq hQ hQz hW
      obtain ⟨b, hbq⟩ : ∃ b, wr.heap.size = b := ⟨_, rfl⟩
      have hRd : Hid (Calls Try.prog 18 #[.string Q] wr fun x w' => x = .returned (.pointer (some ⟨b, 0, none⟩)) ∧ Rd w' b Q 0 ∧ Below b wr w') := by
        have := read_any Q wr
        rw [hbq] at this
        exact this
      have hHb : hi ≤ b := by omega
      clear hbq hH
      go_wp2_with (first
        | (go_at_call 16; refine c16.out.mono ?_; rintro e w4 ⟨rfl, rfl⟩)
        | (go_at_call 18; refine hRd.out.mono ?_; rintro e w5 ⟨rfl, r5, b5⟩; have hR5 : RowAt w5 B hi a3 us := hR.below b5 hHb; have hb5 : Below N w w5 := hb.trans (b5.mono (by omega))))
      go_loopw [10] (fun c wr => ∃ k : Nat, k ≤ m ∧ c = .int .i64 (k : Int) ∧ (∃ u, Rd wr b u 0 ∧ u.data.toList = (us.drop k).flatMap thB) ∧ RowAt wr B hi a3 us ∧ Below N w wr) (fun c _ => m - (intOf c).toNat)
      case atStart => exact ⟨0, by omega, rfl, ⟨Q, r5, HQ.out⟩, hR5, hb5⟩
      case round =>
        clear r5 hR5 hb5 b5 hR hb
        obtain ⟨k, hk, rfl, ⟨u, hu, hul⟩, hR, hb⟩ := hrel
        by_cases hlt : k < m
        · obtain ⟨t, ht⟩ : ∃ t, us[k]? = some t := ⟨us[k]'(by have := M.out; omega), List.getElem?_eq_getElem _⟩
          obtain ⟨ho, h5⟩ := huok.out t (List.mem_of_getElem? ht)
          have hus : u.size ≤ 100000000 := by
            have h1 : u.size = ((us.drop k).flatMap thB).length := by show u.data.toList.length = _; rw [hul]
            have e : (us.flatMap thB).length = ((us.take k).flatMap thB).length + ((us.drop k).flatMap thB).length := by
              rw [← List.length_append, ← List.flatMap_append, List.take_append_drop]
            have := HT.out
            omega
          rw [drop_flat us k t ht] at hul
          have HR : Hid (RowAt wr B hi a3 us) := hR
          rcases hR with h0 | ⟨g, o, rfl, _, hgh, hL⟩
          · have := M.out; omega
          have htook : Hid (∀ W, Rd W b u 0 → Calls Try.prog 19 #[.pointer (some ⟨b, 0, none⟩), .agg #[.int .i64 t.kind, .int .i64 t.least, .int .u64 (t.n : Int), .string t.s]] W fun e w' => e = .returned (.agg #[.int .i64 t.kind, .int .i64 t.least, .int .u64 (norN t.kind t.n), .string (norS t.kind t.s)]) ∧ (∃ u', Rd w' b u' 0 ∧ u'.data.toList = (us.drop (k + 1)).flatMap thB) ∧ Upd b W w') := fun W hW => took_back b u (by omega) t ho h5 _ hul W hW
          have hcell : Hid (∀ W : World, W.heap[g]? = wr.heap[g]? → ∀ (j : Nat) (v : Value), (thV t)[j]? = some v → W.cell? ⟨g, o + k * 4 + j, none⟩ = some v) := fun W hW j v hv => (hL.same hW).cell k t ht j v hv
          have hgl := hL.lt
          clear hul hL ho h5 ht hus
          obtain ⟨kd, ls, n, s⟩ := t
          simp only at htook
          have d0 := hcell.out wr rfl 0 _ rfl
          have d1 := hcell.out wr rfl 1 _ rfl
          have d2 := hcell.out wr rfl 2 _ rfl
          have d3 := hcell.out wr rfl 3 _ rfl
          simp only [Nat.add_zero] at d0
          have hud : Hid (Rd wr.drew b u 0) := hu
          have hnor : Hid (∀ W, Calls Try.prog 20 #[.agg #[.int .i64 kd, .int .i64 ls, .int .u64 (n : Int), .string s]] W fun e w' => e = .returned (.agg #[.int .i64 kd, .int .i64 ls, .int .u64 (norN kd n), .string (norS kd s)]) ∧ Below W.heap.size W w') := fun W => normal_any kd ls n s W
          generalize norN kd n = q1 at *
          generalize norS kd s = q2 at *
          go_wp2_with fail
          go_region_with (first
            | (go_at_call 19; refine (htook.out _ hud.out).mono ?_; rintro e w6 ⟨rfl, ⟨u6', hu6, hul6⟩, up6⟩; have e0 := hcell.out w6 (up6.block g hgl (by omega)) 0 _ rfl; have e1 := hcell.out w6 (up6.block g hgl (by omega)) 1 _ rfl; have e2 := hcell.out w6 (up6.block g hgl (by omega)) 2 _ rfl; have e3 := hcell.out w6 (up6.block g hgl (by omega)) 3 _ rfl; simp only [Nat.add_zero] at e0)
            | (go_at_call 20; refine (hnor.out _).mono ?_; rintro e w7 ⟨rfl, b7⟩))
          all_goals
            go_wp2
            exact ⟨⟨k + 1, by omega, rfl, ⟨u6', hu6.below b7 hu6.lt, hul6⟩, ((show RowAt wr.drew B hi _ us from HR.out).upd up6 hHb).below b7 (by have := hu6.lt; omega), (hb.drew.trans (Upd.below (B := N) up6 (by omega) (by have := hb.size; have := HW.out; show N ≤ wr.heap.size; omega))).trans (b7.mono (by have := hu6.lt; omega))⟩, by simp; omega⟩
        · have hdr : (us.drop k).flatMap thB = [] := by rw [List.drop_of_length_le (by have := M.out; omega)]; rfl
          rw [hdr] at hul
          have hu0 : u.size = 0 := by show u.data.toList.length = 0; rw [hul]; rfl
          have c21 : Hid (Calls Try.prog 21 #[.pointer (some ⟨b, 0, none⟩)] wr fun x w' => x = .returned (.int .i64 0) ∧ w' = wr) := by
            have := left_some b u 0 wr hu
            rw [hu0] at this
            exact this
          have c22 : Hid (Calls Try.prog 22 #[.pointer (some ⟨b, 0, none⟩)] wr fun x w' => x = .returned (.int .i64 0) ∧ w' = wr) := by
            have := done_some b u 0 wr hu
            rw [doneV, if_pos rfl, if_pos hu0] at this
            exact this
          clear hul hdr hu0
          by_cases hS : Q.size = 0
          · have he := emp_true hS
            clear hS
            go_wp2_with (first
              | (go_at_call 21; refine c21.out.mono ?_; rintro e w6 ⟨rfl, rfl⟩)
              | (go_at_call 22; refine c22.out.mono ?_; rintro e w7 ⟨rfl, rfl⟩))
            go_ret
            exact ⟨rfl, hb⟩
          · have he := emp_false hS
            by_cases hneg : at_ < 0
            · obtain ⟨kn, hkn⟩ : ∃ kn : Nat, -(at_ + 1) = (kn : Int) := ⟨(-(at_ + 1)).toNat, by omega⟩
              have hkn2 : kn < 9223372036854775808 := by omega
              obtain ⟨j, hj⟩ : ∃ j, kn % Q.size = j := ⟨_, rfl⟩
              have hj1 : (kn : Int) % (Q.size : Int) = (j : Int) := by rw [← hj]; simp
              have hj2 : j < Q.size := by rw [← hj]; exact Nat.mod_lt _ (by omega)
              have hj3 : (kn : Int).tmod (Q.size : Int) = (j : Int) := by rw [Int.tmod_eq_emod_of_nonneg (by omega)]; exact hj1
              have hf0 : ¬ (Q.size : Int) = 0 := by omega
              have hj4 : (j : Int) < (Q.size : Int) := by omega
              have hj5 : (j : Int) ≤ (Q.size : Int) := by omega
              have hQ1 : (Q.size : Int) ≤ 100000000 := by have := HQz.out; have := HT.out; omega
              have hjl : Hid (j < (us.flatMap thB).length) := by show j < _; have := HQz.out; omega
              have hst : Hid (OnWay us j 0 (Q.extract 0 j) 0) := .inl ⟨rfl, by simp, by rw [ext_head, HQ.out]; simp⟩
              clear hj hj1
              obtain ⟨b2, hb2⟩ : ∃ b2, wr.heap.size = b2 := ⟨_, rfl⟩
              have c18 : Hid (Calls Try.prog 18 #[.string (Q.extract 0 j)] wr fun x w' => x = .returned (.pointer (some ⟨b2, 0, none⟩)) ∧ Rd w' b2 (Q.extract 0 j) 0 ∧ Below b2 wr w') := by
                have := read_any (Q.extract 0 j) wr
                rw [hb2] at this
                exact this
              have hHb2 : hi ≤ b2 := by have := hu.lt; omega
              clear hb2
              go_wp2_with (first
                | (go_at_call 18; refine c18.out.mono ?_; rintro e w8 ⟨rfl, r8, b8⟩; have hR8 : RowAt w8 B hi a3 us := hR.below b8 hHb2; have hb8 : Below N w w8 := hb.trans (b8.mono (by omega)))
                | (go_at_call 21; refine c21.out.mono ?_; rintro e w6 ⟨rfl, rfl⟩)
                | (go_at_call 22; refine c22.out.mono ?_; rintro e w7 ⟨rfl, rfl⟩))
              go_loopw [13] (fun c wr => ∃ k : Nat, k ≤ m ∧ c = .int .i64 (k : Int) ∧ (∃ u E, Rd wr b2 u E ∧ OnWay us j k u E) ∧ RowAt wr B hi a3 us ∧ Below N w wr) (fun c _ => m - (intOf c).toNat)
              case atStart => exact ⟨0, by omega, rfl, ⟨_, 0, r8, hst.out⟩, hR8, hb8⟩
              case round =>
                clear r8 hR8 hb8 b8 hR hb hlt hk hu
                obtain ⟨k, hk, rfl, ⟨u, E, hu, hway⟩, hR, hb⟩ := hrel
                by_cases hlt : k < m
                · obtain ⟨t, ht⟩ : ∃ t, us[k]? = some t := ⟨us[k]'(by have := M.out; omega), List.getElem?_eq_getElem _⟩
                  obtain ⟨ho, h5⟩ := huok.out t (List.mem_of_getElem? ht)
                  have HR : Hid (RowAt wr B hi a3 us) := hR
                  rcases hR with h0 | ⟨g, o, rfl, _, hgh, hL⟩
                  · have := M.out; omega
                  have htook : Hid (Calls Try.prog 19 #[.pointer (some ⟨b2, 0, none⟩), .agg #[.int .i64 t.kind, .int .i64 t.least, .int .u64 (t.n : Int), .string t.s]] wr fun e w' => (∃ c0 c1 c2 c3, e = .returned (.agg #[c0, c1, c2, c3])) ∧ (∃ u' E', Rd w' b2 u' E' ∧ OnWay us j (k + 1) u' E') ∧ Upd b2 wr w') := took_way b2 us j k u E t ht ho h5 hway HT.out wr hu
                  have d0 := hL.cell k t ht 0 _ rfl
                  have d1 := hL.cell k t ht 1 _ rfl
                  have d2 := hL.cell k t ht 2 _ rfl
                  have d3 := hL.cell k t ht 3 _ rfl
                  simp only [Nat.add_zero] at d0
                  have hul := hu.lt
                  clear hL ho h5 ht hway hu
                  obtain ⟨kd, ls, n, s⟩ := t
                  simp only at d0 d1 d2 d3 htook
                  go_wp2_with (go_at_call 19; refine htook.out.mono ?_; rintro e w9 ⟨⟨q0, q1, q2, q3, rfl⟩, ⟨u', E', hu', hway'⟩, up9⟩)
                  exact ⟨⟨k + 1, by omega, rfl, ⟨u', E', hu', hway'⟩, HR.out.upd up9 hHb2, hb.trans (up9.below (by omega) (by omega))⟩, by simp; omega⟩
                · have hkm : k = us.length := by have := M.out; omega
                  rw [hkm] at hway
                  have hE : E = 10 := hway.last hjl.out
                  subst hE
                  have c22b : Hid (Calls Try.prog 22 #[.pointer (some ⟨b2, 0, none⟩)] wr fun x w' => x = .returned (.int .i64 10) ∧ w' = wr) := by
                    have := done_some b2 u 10 wr hu
                    rw [doneV, if_neg (by decide)] at this
                    exact this
                  clear hway hkm
                  go_wp2_with (go_at_call 22; refine c22b.out.mono ?_; rintro e w9 ⟨rfl, rfl⟩)
                  go_ret
                  exact ⟨rfl, hb⟩
            · obtain ⟨kn, rfl⟩ := Int.eq_ofNat_of_zero_le (by omega : 0 ≤ at_)
              have hkn2 : kn < 9223372036854775808 := by omega
              obtain ⟨j, hj⟩ : ∃ j, kn % Q.size = j := ⟨_, rfl⟩
              have hj1 : (kn : Int) % (Q.size : Int) = (j : Int) := by rw [← hj]; simp
              have hj2 : j < Q.size := by rw [← hj]; exact Nat.mod_lt _ (by omega)
              have hj3 : (kn : Int).tmod (Q.size : Int) = (j : Int) := by rw [Int.tmod_eq_emod_of_nonneg (by omega)]; exact hj1
              have hf0 : ¬ (Q.size : Int) = 0 := by omega
              have hj4 : (j : Int) < (Q.size : Int) := by omega
              have hj5 : (j : Int) ≤ (Q.size : Int) := by omega
              have hQ1 : (Q.size : Int) ≤ 100000000 := by have := HQz.out; have := HT.out; omega
              have hjl : Hid (j < (us.flatMap thB).length) := by show j < _; have := HQz.out; omega
              have hst : Hid (OnWay us j 0 (Q.extract 0 j) 0) := .inl ⟨rfl, by simp, by rw [ext_head, HQ.out]; simp⟩
              clear hj hj1
              obtain ⟨b2, hb2⟩ : ∃ b2, wr.heap.size = b2 := ⟨_, rfl⟩
              have c18 : Hid (Calls Try.prog 18 #[.string (Q.extract 0 j)] wr fun x w' => x = .returned (.pointer (some ⟨b2, 0, none⟩)) ∧ Rd w' b2 (Q.extract 0 j) 0 ∧ Below b2 wr w') := by
                have := read_any (Q.extract 0 j) wr
                rw [hb2] at this
                exact this
              have hHb2 : hi ≤ b2 := by have := hu.lt; omega
              clear hb2
              go_wp2_with (first
                | (go_at_call 18; refine c18.out.mono ?_; rintro e w8 ⟨rfl, r8, b8⟩; have hR8 : RowAt w8 B hi a3 us := hR.below b8 hHb2; have hb8 : Below N w w8 := hb.trans (b8.mono (by omega)))
                | (go_at_call 21; refine c21.out.mono ?_; rintro e w6 ⟨rfl, rfl⟩)
                | (go_at_call 22; refine c22.out.mono ?_; rintro e w7 ⟨rfl, rfl⟩))
              go_loopw [13] (fun c wr => ∃ k : Nat, k ≤ m ∧ c = .int .i64 (k : Int) ∧ (∃ u E, Rd wr b2 u E ∧ OnWay us j k u E) ∧ RowAt wr B hi a3 us ∧ Below N w wr) (fun c _ => m - (intOf c).toNat)
              case atStart => exact ⟨0, by omega, rfl, ⟨_, 0, r8, hst.out⟩, hR8, hb8⟩
              case round =>
                clear r8 hR8 hb8 b8 hR hb hlt hk hu
                obtain ⟨k, hk, rfl, ⟨u, E, hu, hway⟩, hR, hb⟩ := hrel
                by_cases hlt : k < m
                · obtain ⟨t, ht⟩ : ∃ t, us[k]? = some t := ⟨us[k]'(by have := M.out; omega), List.getElem?_eq_getElem _⟩
                  obtain ⟨ho, h5⟩ := huok.out t (List.mem_of_getElem? ht)
                  have HR : Hid (RowAt wr B hi a3 us) := hR
                  rcases hR with h0 | ⟨g, o, rfl, _, hgh, hL⟩
                  · have := M.out; omega
                  have htook : Hid (Calls Try.prog 19 #[.pointer (some ⟨b2, 0, none⟩), .agg #[.int .i64 t.kind, .int .i64 t.least, .int .u64 (t.n : Int), .string t.s]] wr fun e w' => (∃ c0 c1 c2 c3, e = .returned (.agg #[c0, c1, c2, c3])) ∧ (∃ u' E', Rd w' b2 u' E' ∧ OnWay us j (k + 1) u' E') ∧ Upd b2 wr w') := took_way b2 us j k u E t ht ho h5 hway HT.out wr hu
                  have d0 := hL.cell k t ht 0 _ rfl
                  have d1 := hL.cell k t ht 1 _ rfl
                  have d2 := hL.cell k t ht 2 _ rfl
                  have d3 := hL.cell k t ht 3 _ rfl
                  simp only [Nat.add_zero] at d0
                  have hul := hu.lt
                  clear hL ho h5 ht hway hu
                  obtain ⟨kd, ls, n, s⟩ := t
                  simp only at d0 d1 d2 d3 htook
                  go_wp2_with (go_at_call 19; refine htook.out.mono ?_; rintro e w9 ⟨⟨q0, q1, q2, q3, rfl⟩, ⟨u', E', hu', hway'⟩, up9⟩)
                  exact ⟨⟨k + 1, by omega, rfl, ⟨u', E', hu', hway'⟩, HR.out.upd up9 hHb2, hb.trans (up9.below (by omega) (by omega))⟩, by simp; omega⟩
                · have hkm : k = us.length := by have := M.out; omega
                  rw [hkm] at hway
                  have hE : E = 10 := hway.last hjl.out
                  subst hE
                  have c22b : Hid (Calls Try.prog 22 #[.pointer (some ⟨b2, 0, none⟩)] wr fun x w' => x = .returned (.int .i64 10) ∧ w' = wr) := by
                    have := done_some b2 u 10 wr hu
                    rw [doneV, if_neg (by decide)] at this
                    exact this
                  clear hway hkm
                  go_wp2_with (go_at_call 22; refine c22b.out.mono ?_; rintro e w9 ⟨rfl, rfl⟩)
                  go_ret
                  exact ⟨rfl, hb⟩
end Go.Proofs.Ytlbdlipdhhpgmaa
