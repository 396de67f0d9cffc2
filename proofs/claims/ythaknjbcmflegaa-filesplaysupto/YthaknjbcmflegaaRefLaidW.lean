/- The document's disk: a file is laid: the walk. -/
import Derived.Test.YthaknjbcmflegaaRefLaid
import Derived.Sort.Walk0
namespace Go.Proofs.Ythaknjbcmflegaa
open Go.RowKit Go.Maps Go.WideMaps

set_option maxHeartbeats 3200000 in
set_option maxRecDepth 100000 in
theorem rlaid_some (N r : Nat) (S : Dk) (k : List UInt8) (f : Fl) (hG : (putS S k f).Good) (w : World) (h : RefAt w N r S) : Calls Try.prog 57 #[.pointer (some ⟨r, 0, none⟩), .agg #[.string (strL k), .string (strL f.bytes), .int .i64 (f.firm : Int)]] w fun e w' => e = .returned (.tuple #[]) ∧ RefAt w' N r (putS S k f) ∧ RUpd N w w' := by
  obtain ⟨fs, hfs⟩ : ∃ fs, fs = del k S.fs := ⟨_, rfl⟩
  obtain ⟨nm, hnm⟩ : ∃ q, strL k = q := ⟨_, rfl⟩
  obtain ⟨dt, hdt⟩ : ∃ q, strL f.bytes = q := ⟨_, rfl⟩
  obtain ⟨fm, hfm⟩ : ∃ q, (f.firm : Int) = q := ⟨_, rfl⟩
  have hrise := h.good.rise
  have hlen : fs.length ≤ 256 := by rw [hfs]; have := len_del S.fs k; have := h.good.len; omega
  have hgo : Hid (Calls Try.prog 56 #[.pointer (some ⟨r, 0, none⟩), .string nm] (w.alloc (.cells #[.string nm, .string dt, .int .i64 fm] 63)) fun e w' => e = .returned (.tuple #[]) ∧ ∃ a c, w'.cell? ⟨r, 0, none⟩ = some (.slice a fs.length c) ∧ w'.frozen? ⟨r, 0, none⟩ = false ∧ RowsAt w' a fs ∧ r < w'.heap.size ∧ w.heap.size < w'.heap.size ∧ Holds w' w.heap.size [.string nm, .string dt, .int .i64 fm] 63 ∧
      ∀ wr v, Below w'.heap.size w' wr → wr.ownsRow w'.heap.size 63 3 v (put k f fs).length (rowV (put k f fs)) → RefAt (wr.setCell ⟨r, 0, none⟩ v) N r (putS S k f) ∧ RUpd N w (wr.setCell ⟨r, 0, none⟩ v)) := by
    have hlt := h.lt
    refine (rgone_some N r S nm _ (h.alloc _)).mono fun e w' ⟨h1, h2, h3, h4, _⟩ => ⟨h1, ?_⟩
    have hk : nm.data.toList = k := by rw [← hnm]; rfl
    rw [hk] at h2
    obtain ⟨fs', a, c, e1, e2, e3⟩ := h2.rows
    obtain rfl : fs' = fs := by rw [hfs, ← e1]; rfl
    have hsz := h3.size
    rw [World.size_alloc] at hsz
    refine ⟨a, c, e2, ?_, e3, by omega, by omega, ?_, fun wr v hb ho => ?_⟩
    · obtain ⟨v, hH, _⟩ := h2
      exact hH.frozen 0
    · have := holds_new w [.string nm, .string dt, .int .i64 fm] 63
      unfold Holds at this ⊢
      rw [h4 w.heap.size (by simp) (by omega)]; exact this
    · obtain ⟨k1, k2, _⟩ := h2.swap (T := putS S k f) hb rfl ho (by rw [putS, hfs, put_del hrise]; rfl) hG
      exact ⟨k1, (((RUpd.refl N w).alloc _).trans h3).trans k2⟩
  have hni : Hid (∀ p ∈ fs, ¬ k = p.1) := by rw [hfs]; exact not_in_del hrise k
  have hflv : Hid (flV (k, f) = [.string nm, .string dt, .int .i64 fm]) := by
    show [Value.string (strL k), .string (strL f.bytes), .int .i64 (f.firm : Int)] = _
    rw [hnm, hdt, hfm]
  have hk : Hid (nm = strL k) := hnm.symm
  rw [hnm, hdt, hfm]
  generalize putS S k f = T at *
  obtain ⟨i63, f63, hz63, hs63, hb63⟩ := inf63
  have F63 : Hid (Try.prog.info? 63 = some i63) := f63
  have FZ : Hid (i63.zero = some (.agg #[.string ⟨#[]⟩, .string ⟨#[]⟩, .int .i64 0])) := hz63
  have FS : Hid (i63.size = 3) := hs63
  have FB : Hid (i63.bytes = 40) := hb63
  obtain ⟨m, hm⟩ : ∃ m, fs.length = m := ⟨_, rfl⟩
  have M : Hid (fs.length = m) := hm
  rw [hm] at hgo hlen
  clear hfs hm h f63 hz63 hs63 hb63 hrise hnm hdt hfm hG
  obtain ⟨b, hbw⟩ : ∃ b, w.heap.size = b := ⟨_, rfl⟩
  rw [hbw] at hgo
  go_enter Try.func57, Try.ntmps57
  go_wp2_with (go_at_call 56; refine hgo.out.mono ?_; rintro e w2 ⟨rfl, a, c, c0, fz0, hrow, hrl, hbl, hbox, hfin⟩)
  obtain ⟨H, hH⟩ : ∃ H, H = w2.heap.size := ⟨_, rfl⟩
  rw [← hH] at hfin hrl hbl
  have FIN : Hid (∀ wr v, Below H w2 wr → wr.ownsRow H 63 3 v (put k f fs).length (rowV (put k f fs)) → RefAt (wr.setCell ⟨r, 0, none⟩ v) N r T ∧ RUpd N w (wr.setCell ⟨r, 0, none⟩ v)) := hfin
  have f0 : Hid (∀ wr, Below H w2 wr → (wr.cell? ⟨r, 0, none⟩ = some (.slice a m c) ∧ wr.frozen? ⟨r, 0, none⟩ = false) ∧ RowsAt wr a fs ∧ wr.cell? ⟨b, 0, none⟩ = some (.string nm) ∧ wr.cell? ⟨b, 1, none⟩ = some (.string dt) ∧ wr.cell? ⟨b, 2, none⟩ = some (.int .i64 fm)) := fun wr hb => by
    have e := hb.block r (by omega)
    have eb := hb.block b (by omega)
    exact ⟨⟨(World.cell?_of_block e).trans c0, (World.frozen?_of_block e).trans fz0⟩, hrow.below hb hH, (World.cell?_of_block eb).trans (hbox.at 0 _ rfl), (World.cell?_of_block eb).trans (hbox.at 1 _ rfl), (World.cell?_of_block eb).trans (hbox.at 2 _ rfl)⟩
  have HH : Hid (H = w2.heap.size) := hH
  clear hfin hrow hbox c0 fz0 hH hrl hbl hbw hgo
  go_loopw [4, 5, 6] (fun v dn c wr => ∃ (k1 : Nat) (d : Bool) (l : Fs), k1 ≤ m ∧ c = .int .i64 (k1 : Int) ∧ dn = .bool d ∧ Hid (InsAt fs k f k1 d l) ∧ wr.ownsRow H 63 3 v l.length (rowV l) ∧ H ≤ wr.heap.size ∧ Below H w2 wr) (fun _ _ c _ => m - (intOf c).toNat)
  case atStart => exact ⟨0, false, [], by omega, rfl, rfl, InsAt.start fs k f, World.ownsRow_nil _ _ _ _, (by have := HH.out; omega), Below.refl _ _⟩
  case round =>
    obtain ⟨k1, dn, l, hk1, rfl, rfl, hins, hown, hsz, hb⟩ := hrel
    obtain ⟨⟨c0, fz0⟩, hrw, b0, b1, b2⟩ := f0.out wr hb
    by_cases hlt : k1 < m
    · obtain ⟨p, hp⟩ : ∃ p, fs[k1]? = some p := ⟨fs[k1]'(by have := M.out; omega), List.getElem?_eq_getElem _⟩
      obtain ⟨g, rfl, hc⟩ := hrw k1 p hp
      have d0 := hc 0 _ rfl
      have d1 := hc 1 _ rfl
      have d2 := hc 2 _ rfl
      simp only [Nat.add_zero] at d0
      clear hrw hc
      have hne : ¬ k = p.1 := hni.out p (List.mem_of_getElem? hp)
      have hil := hins.out.len (by have := M.out; omega)
      have hrv : Hid (rowV (l ++ [p]) = rowV l ++ flV p) := by
        show rowV (l ++ [p]) = _
        rw [rowV_append, rowV_one]
      have hrv2 : Hid (rowV (l ++ [(k, f)] ++ [p]) = (rowV l ++ flV (k, f)) ++ flV p) := by
        show rowV (l ++ [(k, f)] ++ [p]) = _
        rw [rowV_append, rowV_append, rowV_one, rowV_one]
      have hll : Hid ((l ++ [p]).length = l.length + 1) := by show (l ++ [p]).length = _; simp
      have hll2 : Hid ((l ++ [(k, f)] ++ [p]).length = l.length + 1 + 1) := by show (l ++ [(k, f)] ++ [p]).length = _; simp
      obtain ⟨q, hq⟩ : ∃ q, strL p.1 = q := ⟨_, rfl⟩
      obtain ⟨q2, hq2⟩ : ∃ q, strL p.2.bytes = q := ⟨_, rfl⟩
      obtain ⟨q3, hq3⟩ : ∃ q, (p.2.firm : Int) = q := ⟨_, rfl⟩
      have hfp : Hid (flV p = [.string q, .string q2, .int .i64 q3]) := by
        show [Value.string (strL p.1), .string (strL p.2.bytes), .int .i64 (p.2.firm : Int)] = _
        rw [hq, hq2, hq3]
      have hbl : Op.bytesLess nm.toList q.toList = decide (k < p.1) := by
        rw [Go.Proofs.bytesLess_eq, hk.out, ← hq, Go.ByteArray.toList_eq, Go.ByteArray.toList_eq]; exact decide_eq_decide.2 (by simp [strL])
      rw [hq] at d0
      rw [hq2] at d1
      rw [hq3] at d2
      obtain ⟨n, hn⟩ : ∃ n, l.length = n := ⟨_, rfl⟩
      rw [hn] at hown hil hll hll2
      obtain ⟨xs, hxs⟩ : ∃ xs, rowV l = xs := ⟨_, rfl⟩
      rw [hxs] at hown hrv hrv2
      have F3 : Hid (∀ W', Below H w2 W' → W'.cell? ⟨r, 0, none⟩ = some (.slice (some ⟨g, 0, none⟩) m c) ∧ W'.cell? ⟨g, k1 * 3, none⟩ = some (.string q) ∧ W'.cell? ⟨g, k1 * 3 + 1, none⟩ = some (.string q2) ∧ W'.cell? ⟨g, k1 * 3 + 2, none⟩ = some (.int .i64 q3)) := fun W' hW => by
        obtain ⟨⟨e1, _⟩, hrw, _⟩ := f0.out W' hW
        obtain ⟨g', eg, hc3⟩ := hrw k1 p hp
        cases eg
        have z0 := hc3 0 _ rfl
        have z1 := hc3 1 _ rfl
        have z2 := hc3 2 _ rfl
        simp only [Nat.add_zero] at z0
        rw [hq] at z0
        rw [hq2] at z1
        rw [hq3] at z2
        exact ⟨e1, z0, z1, z2⟩
      clear FIN f0 hq hq2 hq3 hxs hn
      cases dn with
      | true =>
        have hl2 : Hid (InsAt fs k f (k1 + 1) true (l ++ [p])) := hins.out.late hp
        clear hins hbl hp hne
        go_wp2_with fail
        go_region
        have hbW : Below H w2 wr.drew := ⟨hb.os, hb.tape, hb.output, hb.size, hb.block⟩
        have hoW : wr.drew.ownsRow H 63 3 u4 n xs := hown
        have sW : H ≤ wr.drew.heap.size := hsz
        have cW : wr.drew.cell? ⟨r, 0, none⟩ = some (.slice (some ⟨g, 0, none⟩) m c) := c0
        have x0 : wr.drew.cell? ⟨g, k1 * 3, none⟩ = some (.string q) := d0
        have x1 : wr.drew.cell? ⟨g, k1 * 3 + 1, none⟩ = some (.string q2) := d1
        have x2 : wr.drew.cell? ⟨g, k1 * 3 + 2, none⟩ = some (.int .i64 q3) := d2
        have y0 : wr.drew.cell? ⟨b, 0, none⟩ = some (.string nm) := b0
        have y1 : wr.drew.cell? ⟨b, 1, none⟩ = some (.string dt) := b1
        have y2 : wr.drew.cell? ⟨b, 2, none⟩ = some (.int .i64 fm) := b2
        clear hb hown hsz c0 d0 d1 d2 b0 b1 b2 fz0
        generalize wr.drew = W at *
        go_wp2_with (first
          | (at_builtin; refine wpList_append_lies _ rfl (.tmp 39) (.tmp 47) 33 rfl H 63 i63 (.agg #[.string ⟨#[]⟩, .string ⟨#[]⟩, .int .i64 0]) 3 40 Try.underlying33 F63.out FZ.out FS.out FB.out rfl (by omega) u4 n xs rfl (hoW.alloc _) ⟨W.heap.size, 0, none⟩ 1 1 [.string q, .string q2, .int .i64 q3] rfl rfl (World.news_of_block (heap_alloc_new W (.cells #[.string q, .string q2, .int .i64 q3] 63))) (by intro u hu; simp at hu; rcases hu with rfl | rfl | rfl <;> rfl) (by omega) (by unfold maxLen; omega) (by omega) (by simp; omega) (W.heap.size + 1) (by simp) ?_; intro g2 cap2 w3 hown3 hgrow hat hlt3))
        have b3 : Below H w2 w3 := below_grown (hbW.alloc (by omega) _) hgrow (by simp; omega) (hoW.alloc _)
        refine ⟨⟨k1 + 1, true, l ++ [p], by omega, rfl, rfl, hl2, ?_, (by have := b3.size; have := HH.out; omega), b3⟩, by simp; omega⟩
        rw [hrv.out, hll.out, hfp.out]
        exact hown3
      | false =>
        by_cases hls : k < p.1
        · have hl2 : Hid (InsAt fs k f (k1 + 1) true (l ++ [(k, f)] ++ [p])) := hins.out.now hp hls hne
          rw [decide_eq_true hls] at hbl
          clear hins hp hne hls
          go_wp2_with fail
          go_region
          have hbW : Below H w2 wr.drew := ⟨hb.os, hb.tape, hb.output, hb.size, hb.block⟩
          have hoW : wr.drew.ownsRow H 63 3 u4 n xs := hown
          have sW : H ≤ wr.drew.heap.size := hsz
          have cW : wr.drew.cell? ⟨r, 0, none⟩ = some (.slice (some ⟨g, 0, none⟩) m c) := c0
          have x0 : wr.drew.cell? ⟨g, k1 * 3, none⟩ = some (.string q) := d0
          have x1 : wr.drew.cell? ⟨g, k1 * 3 + 1, none⟩ = some (.string q2) := d1
          have x2 : wr.drew.cell? ⟨g, k1 * 3 + 2, none⟩ = some (.int .i64 q3) := d2
          have y0 : wr.drew.cell? ⟨b, 0, none⟩ = some (.string nm) := b0
          have y1 : wr.drew.cell? ⟨b, 1, none⟩ = some (.string dt) := b1
          have y2 : wr.drew.cell? ⟨b, 2, none⟩ = some (.int .i64 fm) := b2
          clear hb hown hsz c0 d0 d1 d2 b0 b1 b2 fz0
          generalize wr.drew = W at *
          clear hbl
          go_wp2_with (first
            | (at_builtin; refine wpList_append_lies _ rfl (.tmp 39) (.tmp 47) 33 rfl H 63 i63 (.agg #[.string ⟨#[]⟩, .string ⟨#[]⟩, .int .i64 0]) 3 40 Try.underlying33 F63.out FZ.out FS.out FB.out rfl (by omega) (.slice (some ⟨g2, 0, none⟩) (n + 1) cap2) (n + 1) (xs ++ [.string nm, .string dt, .int .i64 fm]) rfl (hown3.alloc _) ⟨w3.heap.size, 0, none⟩ 1 1 [.string q, .string q2, .int .i64 q3] rfl rfl (World.news_of_block (heap_alloc_new w3 (.cells #[.string q, .string q2, .int .i64 q3] 63))) (by intro u hu; simp at hu; rcases hu with rfl | rfl | rfl <;> rfl) (by omega) (by unfold maxLen; omega) (by omega) (by simp; omega) (w3.heap.size + 1) (by simp) ?_; intro g4 cap4 w4 hown4 hgrow4 hat4 hlt4)
            | (at_builtin; refine wpList_append_lies _ rfl (.tmp 35) (.tmp 37) 33 rfl H 63 i63 (.agg #[.string ⟨#[]⟩, .string ⟨#[]⟩, .int .i64 0]) 3 40 Try.underlying33 F63.out FZ.out FS.out FB.out rfl (by omega) u4 n xs rfl (hoW.alloc _) ⟨W.heap.size, 0, none⟩ 1 1 [.string nm, .string dt, .int .i64 fm] rfl rfl (World.news_of_block (heap_alloc_new W (.cells #[.string nm, .string dt, .int .i64 fm] 63))) (by intro u hu; simp at hu; rcases hu with rfl | rfl | rfl <;> rfl) (by omega) (by unfold maxLen; omega) (by omega) (by simp; omega) (W.heap.size + 1) (by simp) ?_; intro g2 cap2 w3 hown3 hgrow hat hlt3; have b3 : Below H w2 w3 := below_grown (hbW.alloc (by omega) _) hgrow (by simp; omega) (hoW.alloc _); have s3 : H ≤ w3.heap.size := (by have := b3.size; have := HH.out; omega); obtain ⟨z0, z1, z2, z3⟩ := F3.out w3 b3; clear cW x0 x1 x2))
          have b4 : Below H w2 w4 := below_grown (b3.alloc (by omega) _) hgrow4 (by simp; omega) (hown3.alloc _)
          refine ⟨⟨k1 + 1, true, l ++ [(k, f)] ++ [p], by omega, rfl, rfl, hl2, ?_, (by have := b4.size; have := HH.out; omega), b4⟩, by simp; omega⟩
          rw [hrv2.out, hll2.out, hfp.out, hflv.out]
          exact hown4
        · have hl2 : Hid (InsAt fs k f (k1 + 1) false (l ++ [p])) := hins.out.wait hp hls hne
          rw [decide_eq_false hls] at hbl
          clear hins hp hne hls
          go_wp2_with fail
          go_region
          have hbW : Below H w2 wr.drew := ⟨hb.os, hb.tape, hb.output, hb.size, hb.block⟩
          have hoW : wr.drew.ownsRow H 63 3 u4 n xs := hown
          have sW : H ≤ wr.drew.heap.size := hsz
          have cW : wr.drew.cell? ⟨r, 0, none⟩ = some (.slice (some ⟨g, 0, none⟩) m c) := c0
          have x0 : wr.drew.cell? ⟨g, k1 * 3, none⟩ = some (.string q) := d0
          have x1 : wr.drew.cell? ⟨g, k1 * 3 + 1, none⟩ = some (.string q2) := d1
          have x2 : wr.drew.cell? ⟨g, k1 * 3 + 2, none⟩ = some (.int .i64 q3) := d2
          have y0 : wr.drew.cell? ⟨b, 0, none⟩ = some (.string nm) := b0
          have y1 : wr.drew.cell? ⟨b, 1, none⟩ = some (.string dt) := b1
          have y2 : wr.drew.cell? ⟨b, 2, none⟩ = some (.int .i64 fm) := b2
          clear hb hown hsz c0 d0 d1 d2 b0 b1 b2 fz0
          generalize wr.drew = W at *
          clear hbl
          go_wp2_with (first
            | (at_builtin; refine wpList_append_lies _ rfl (.tmp 39) (.tmp 47) 33 rfl H 63 i63 (.agg #[.string ⟨#[]⟩, .string ⟨#[]⟩, .int .i64 0]) 3 40 Try.underlying33 F63.out FZ.out FS.out FB.out rfl (by omega) u4 n xs rfl (hoW.alloc _) ⟨W.heap.size, 0, none⟩ 1 1 [.string q, .string q2, .int .i64 q3] rfl rfl (World.news_of_block (heap_alloc_new W (.cells #[.string q, .string q2, .int .i64 q3] 63))) (by intro u hu; simp at hu; rcases hu with rfl | rfl | rfl <;> rfl) (by omega) (by unfold maxLen; omega) (by omega) (by simp; omega) (W.heap.size + 1) (by simp) ?_; intro g2 cap2 w3 hown3 hgrow hat hlt3))
          have b3 : Below H w2 w3 := below_grown (hbW.alloc (by omega) _) hgrow (by simp; omega) (hoW.alloc _)
          refine ⟨⟨k1 + 1, false, l ++ [p], by omega, rfl, rfl, hl2, ?_, (by have := b3.size; have := HH.out; omega), b3⟩, by simp; omega⟩
          rw [hrv.out, hll.out, hfp.out]
          exact hown3
    · obtain rfl : k1 = m := by omega
      cases dn with
      | true =>
        have hl2 := hins.out.endT (by have := M.out; omega)
        obtain ⟨j1, j2⟩ := FIN.out wr u4 hb (by rw [← hl2]; exact hown)
        have J1 : Hid (RefAt (wr.setCell ⟨r, 0, none⟩ u4) N r T) := j1
        have J2 : Hid (RUpd N w (wr.setCell ⟨r, 0, none⟩ u4)) := j2
        obtain ⟨va, vc, rfl⟩ : ∃ va vc, u4 = .slice va l.length vc := by
          rcases hown.2 with ⟨rfl, h0⟩ | ⟨g, cap, cur, rfl, _⟩
          · exact ⟨_, _, by rw [h0]⟩
          · exact ⟨_, _, rfl⟩
        clear j1 j2 hl2 hins hown FIN f0 hrw
        go_wp2
        exact bodyPost_end (results_none (by kernel_rfl) _ _ _) rfl ⟨rfl, J1.out, J2.out⟩
      | false =>
        have hl2 := hins.out.endF (by have := M.out; omega)
        have hil := hins.out.len (by have := M.out; omega)
        have FN : Hid (∀ W v, Below H w2 W → W.ownsRow H 63 3 v (l.length + 1) (rowV l ++ [.string nm, .string dt, .int .i64 fm]) → RefAt (W.setCell ⟨r, 0, none⟩ v) N r T ∧ RUpd N w (W.setCell ⟨r, 0, none⟩ v)) := fun W v h1 h2 => FIN.out W v h1 (by
          rw [← hl2, rowV_append, rowV_one, hflv.out, List.length_append]; exact h2)
        have F4 : Hid (∀ W, Below H w2 W → W.cell? ⟨r, 0, none⟩ = some (.slice a k1 c) ∧ W.frozen? ⟨r, 0, none⟩ = false) := fun W hW => (f0.out W hW).1
        obtain ⟨n, hn⟩ : ∃ n, l.length = n := ⟨_, rfl⟩
        rw [hn] at hown hil FN
        obtain ⟨xs, hxs⟩ : ∃ xs, rowV l = xs := ⟨_, rfl⟩
        rw [hxs] at hown FN
        clear hl2 hins FIN f0 hrw hn hxs
        go_wp2_with (first
          | (at_builtin; refine wpList_append_lies _ rfl (.tmp 51) (.tmp 53) 33 rfl H 63 i63 (.agg #[.string ⟨#[]⟩, .string ⟨#[]⟩, .int .i64 0]) 3 40 Try.underlying33 F63.out FZ.out FS.out FB.out rfl (by omega) u4 n xs rfl (hown.alloc _) ⟨wr.heap.size, 0, none⟩ 1 1 [.string nm, .string dt, .int .i64 fm] rfl rfl (World.news_of_block (heap_alloc_new wr (.cells #[.string nm, .string dt, .int .i64 fm] 63))) (by intro u hu; simp at hu; rcases hu with rfl | rfl | rfl <;> rfl) (by omega) (by unfold maxLen; omega) (by omega) (by simp; omega) (wr.heap.size + 1) (by simp) ?_; intro g2 cap2 w3 hown3 hgrow hat hlt3; have b3 : Below H w2 w3 := below_grown (hb.alloc (by omega) _) hgrow (by simp; omega) (hown.alloc _); obtain ⟨j1, j2⟩ := FN.out w3 _ b3 hown3; have J1 : Hid (RefAt (w3.setCell ⟨r, 0, none⟩ (.slice (some ⟨g2, 0, none⟩) (n + 1) cap2)) N r T) := j1; have J2 : Hid (RUpd N w (w3.setCell ⟨r, 0, none⟩ (.slice (some ⟨g2, 0, none⟩) (n + 1) cap2))) := j2; obtain ⟨z0, z1⟩ := F4.out w3 b3; clear j1 j2 c0 fz0))
        exact bodyPost_end (results_none (by kernel_rfl) _ _ _) rfl ⟨rfl, J1.out, J2.out⟩
end Go.Proofs.Ythaknjbcmflegaa
