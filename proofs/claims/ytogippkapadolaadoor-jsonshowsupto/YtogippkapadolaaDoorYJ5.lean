/- JsQuo, JsTake, JsName, JsMem, EngQ. -/
import Derived.Laws.BytesString
import Derived.Deep.AppendLies
import Derived.KernelRfl
import Derived.Maps.OwnSet
import Derived.Maps.RangeWalk
import Derived.WideKeyPair
import Derived.Test.YtogippkapadolaaDoorYJ4
/- Texts in quotes. -/
namespace Go.Proofs.YtogippkapadolaaDoor
open Go.RowKit

def byteV (c : UInt8) : Value := .int .u8 (c.toNat : Int)
theorem und55 : Tryd.prog.underlying 55 = some (.slice 5) := by kernel_rfl
theorem und5 : Tryd.prog.underlying 5 = some (.int .u8) := by kernel_rfl
theorem und9 : Tryd.prog.underlying 9 = some .string := by kernel_rfl
theorem full5 : (Tryd.prog.info? 5).map (fun i => (i.zero, i.size, i.bytes)) = some (some (.int .u8 0), 1, 1) := by kernel_rfl
theorem inf5 : ∃ i, Tryd.prog.info? 5 = some i ∧ i.zero = some (.int .u8 0) ∧ i.size = 1 ∧ i.bytes = 1 := by
  have := full5
  cases h : Tryd.prog.info? 5 with
  | none => simp [h] at this
  | some i =>
    simp [h] at this
    exact ⟨i, rfl, this.1, this.2.1, this.2.2⟩
theorem strL_list (l : List UInt8) : (strL l).data.toList = l := rfl
theorem strL_size (l : List UInt8) : (strL l).size = l.length := rfl
theorem strL_of (s : ByteArray) : strL s.data.toList = s := by
  obtain ⟨d⟩ := s
  unfold strL; simp
theorem str_nums (l : List UInt8) : strOfNums (l.map fun c => (c.toNat : Int)) = strL l := by
  unfold strOfNums strL
  rw [List.map_map]
  congr 2
  have : ((fun n : Int => UInt8.ofNat n.toNat) ∘ fun c : UInt8 => (c.toNat : Int)) = id := by
    funext c
    simp
  rw [this, List.map_id]
theorem conv_none (w : World) : (convert 55 9 (.slice none 0 0)).run Tryd.prog w = .ok (.string (strL [])) w := by kernel_rfl
theorem convert_own {w : World} {B : Nat} {v : Value} {bs : List UInt8} (h : w.ownsRow B 5 1 v bs.length (bs.map byteV)) : (convert 55 9 v).run Tryd.prog w = .ok (.string (strL bs)) w := by
  rcases h.2 with ⟨rfl, h0⟩ | ⟨g, cap, cur, rfl, hg, hcur, hcap, hcm, hcz, htk⟩
  · have : bs = [] := List.eq_nil_of_length_eq_zero h0
    subst this
    exact conv_none w
  · have := run_convert_bytes_arg (P := Tryd.prog) w 55 5 und55 und5 g 0 bs.length cap (bs.map fun c => (c.toNat : Int)) (by simp) (fun i hi => by
      have hl : i < bs.length := by simpa using hi
      rw [Nat.zero_add, cell_of_row w g i cur 5 (0, 0) hcur]
      have h3 : (cur.toList.take (bs.length * 1))[i]? = (bs.map byteV)[i]? := by rw [htk]
      rw [List.getElem?_take_of_lt (by omega), Array.getElem?_toList] at h3
      rw [h3]
      simp [hl]; rfl) 9 und9
    rw [str_nums] at this
    exact this
theorem own_slice {w : World} {B : Nat} {e : TypeId} {z : Nat} {v : Value} {n : Nat} {xs : List Value} (h : w.ownsRow B e z v n xs) : ∃ a k c, v = .slice a k c := by
  rcases h.2 with ⟨rfl, _⟩ | ⟨g, cap, cur, rfl, _⟩
  · exact ⟨_, _, _, rfl⟩
  · exact ⟨_, _, _, rfl⟩
theorem own_base {w : World} {B : Nat} {e : TypeId} {z : Nat} {v : Value} {n : Nat} {xs : List Value} (h : w.ownsRow B e z v n xs) (j : Nat) (hj : v.ownBlock = some j) : B ≤ j := by
  rcases h.2 with ⟨rfl, _⟩ | ⟨g, cap, cur, rfl, hb, _⟩
  · cases hj
  · cases hj; exact hb
theorem owns_upd {w w' : World} {B b : Nat} {e : TypeId} {z : Nat} {v : Value} {n : Nat} {xs : List Value} (h : w.ownsRow B e z v n xs) (hu : Upd b w w') (hb : b < B) : w'.ownsRow B e z v n xs := by
  obtain ⟨h1, h2 | ⟨g, cap, cur, rfl, hg, hgg, r⟩⟩ := h
  · exact ⟨h1, .inl h2⟩
  · exact ⟨h1, .inr ⟨g, cap, cur, rfl, hg, (hu.block g (Array.getElem?_eq_some_iff.1 hgg).1 (by omega)).trans hgg, r⟩⟩
theorem upd_below {b : Nat} {x y z : World} (h : Upd b x y) (k : Below x.heap.size y z) : Upd b x z := ⟨k.os.trans h.os, k.tape.trans h.tape, k.output.trans h.output, Nat.le_trans h.size k.size, fun j hj hne => (k.block j hj).trans (h.block j hj hne)⟩
theorem escP_le {L : List UInt8} {p q : Nat} {d : UInt8} (h : escP L p = .ok d q) : p < q ∧ q ≤ L.length := by
  unfold escP at h
  cases he : escB (hereP L p) with
  | some x =>
    rw [he] at h
    cases h
    have : p < L.length := here_lt (fun e => by rw [e] at he; cases he)
    exact ⟨by omega, by omega⟩
  | none =>
    rw [he] at h
    dsimp only at h
    split at h
    · cases h1 : passP L [117, 48, 48] p with
      | bad a b => rw [h1] at h; cases h
      | ok u q1 =>
        rw [h1] at h
        have e1 := (passP_le (W := [117, 48, 48]) (by decide) h1).1
        dsimp only [Res.bind] at h
        cases h2 : digP L q1 with
        | bad a b => rw [h2] at h; cases h
        | ok x q2 =>
          rw [h2] at h
          have e2 := digP_le h2
          dsimp only [Res.bind] at h
          cases h3 : digP L q2 with
          | bad a b => rw [h3] at h; cases h
          | ok y q3 =>
            rw [h3] at h
            have e3 := digP_le h3
            cases h
            simp at e1
            exact ⟨by omega, by omega⟩
    · cases h
/-- The fuel is no matter. -/
theorem quo_fuel {L : List UInt8} : ∀ (f g p : Nat) (acc : List UInt8), L.length + 1 - p ≤ f → L.length + 1 - p ≤ g → quoL L f p acc = quoL L g p acc
  | 0, 0, _, _, _, _ => rfl
  | 0, g + 1, p, acc, h, _ => by
    have e : hereP L p = 0 := here_len (by omega)
    rw [quoL, quoL, e]; rfl
  | f + 1, 0, p, acc, _, h => by
    have e : hereP L p = 0 := here_len (by omega)
    rw [quoL, quoL, e]; rfl
  | f + 1, g + 1, p, acc, h1, h2 => by
    rw [quoL, quoL]
    split
    · rfl
    · split
      · rfl
      · split
        · cases he : escP L (p + 1) with
          | bad a b => rfl
          | ok d q =>
            have := escP_le he
            exact quo_fuel f g q (acc ++ [d]) (by omega) (by omega)
        · exact quo_fuel f g (p + 1) _ (by omega) (by omega)
/-- From a place on. -/
def quoF (L : List UInt8) (p : Nat) (acc : List UInt8) : Res (List UInt8) := quoL L (L.length + 1 - p) p acc
theorem quoF_step {L : List UInt8} {p : Nat} {acc : List UInt8} (hp : p ≤ L.length) : quoF L p acc =
    if hereP L p = 34 then .ok acc (p + 1)
    else if hereP L p < 32 then .bad p 60
    else if hereP L p = 92 then (escP L (p + 1)).bind fun d q => quoF L q (acc ++ [d])
    else quoF L (p + 1) (acc ++ [hereP L p]) := by
  unfold quoF
  rw [show L.length + 1 - p = (L.length - p) + 1 by omega, quoL]
  split
  · rfl
  · split
    · rfl
    · split
      · cases he : escP L (p + 1) with
        | bad a b => rfl
        | ok d q =>
          have := escP_le he
          exact quo_fuel _ _ q (acc ++ [d]) (by omega) (by omega)
      · exact quo_fuel _ _ (p + 1) _ (by omega) (by omega)
theorem quoF_le {L : List UInt8} : ∀ (n p : Nat) (acc : List UInt8) {l : List UInt8} {q : Nat}, L.length - p ≤ n → p ≤ L.length → quoF L p acc = .ok l q → p < q ∧ q ≤ L.length ∧ l.length + p < acc.length + q + 1
  | n, p, acc, l, q, hn, hp, h => by
    rw [quoF_step hp] at h
    split at h
    · rename_i hc
      have hl : p < L.length := here_lt (by rw [hc]; decide)
      cases h
      exact ⟨by omega, by omega, by omega⟩
    · split at h
      · cases h
      · rename_i hne hge
        have hl : p < L.length := here_lt (fun e => hge (by rw [e]; decide))
        cases n with
        | zero => omega
        | succ n =>
          split at h
          · cases he : escP L (p + 1) with
            | bad a b => rw [he] at h; cases h
            | ok d q1 =>
              rw [he] at h
              have h1 := escP_le he
              have := quoF_le n q1 (acc ++ [d]) (by omega) (by omega) h
              simp at this
              exact ⟨by omega, by omega, by omega⟩
          · have := quoF_le n (p + 1) (acc ++ [hereP L p]) (by omega) (by omega) h
            simp at this
            exact ⟨by omega, by omega, by omega⟩
theorem quoP_le {L : List UInt8} {p q : Nat} {l : List UInt8} (hp : p ≤ L.length) (h : quoP L p = .ok l q) : p < q ∧ q ≤ L.length ∧ l.length ≤ q := by
  unfold quoP at h
  cases h1 : passP L [34] p with
  | bad a b => rw [h1] at h; cases h
  | ok u q1 =>
    rw [h1] at h
    have e1 := passP_le (W := [34]) (by decide) h1
    have e2 := e1.1
    simp at e2
    have := quoF_le _ q1 [] (Nat.le_refl _) (e1.2 hp) h
    simp at this
    exact ⟨by omega, by omega, by omega⟩
def strV : List UInt8 → Value → World → Prop := fun l u _ => u = .string (strL l)

set_option maxHeartbeats 2000000 in
set_option maxRecDepth 100000 in
theorem quoted_any (b : Nat) (s : ByteArray) (p k : Nat) (hp : p ≤ s.size) (hs : s.size ≤ 140737488355327) (w : World) (h : PAt w b s p k) :
    Calls Tryd.prog 56 #[.pointer (some ⟨b, 0, none⟩)] w (Done b s k w (quoP s.data.toList p) strV) := by
  have hsl : s.data.toList.length = s.size := rfl
  obtain ⟨i5, hi5, hz5, hs5, hb5⟩ := inf5
  have F5 : Hid (Tryd.prog.info? 5 = some i5) := hi5
  clear hi5
  have hpass := pass_any b s p k ⟨#[34]⟩ hp (by omega) (by decide) w h
  rw [show (ByteArray.mk #[34]).data.toList = [34] from rfl] at hpass
  unfold quoP
  have hbw : b < w.heap.size := h.lt
  cases hp1 : passP s.data.toList [34] p with
  | bad q1 e1 =>
    rw [hp1] at hpass
    clear hp1 h
    go_enter Tryd.func56, Tryd.ntmps56
    go_wp2_with (go_at_call 55; refine hpass.mono ?_; rintro e w2 ⟨hu2, rfl⟩; clear hpass)
    exact ⟨rfl, hu2, rfl⟩
  | ok _ q0 =>
    rw [hp1] at hpass
    have hq0 := (passP_le (W := [34]) (by decide) hp1).2 hp
    show Calls _ _ _ _ (Done b s k w (quoF s.data.toList q0 []) strV)
    obtain ⟨r, hr⟩ : ∃ r, quoF s.data.toList q0 [] = r := ⟨_, rfl⟩
    rw [hr]
    clear hp1
    go_enter Tryd.func56, Tryd.ntmps56
    go_wp2_with (go_at_call 55; refine hpass.mono ?_; rintro e w1 ⟨hu1, _, rfl, rfl, hP1⟩; clear hpass)
    go_loopw [3, 4] (fun v _ wr => ∃ (q : Nat) (acc : List UInt8), q ≤ s.size ∧ acc.length ≤ q ∧ quoF s.data.toList q acc = r ∧ PAt wr b s q k ∧ Upd b w wr ∧ wr.ownsRow w.heap.size 5 1 v acc.length (acc.map byteV)) (fun _ _ wr => s.size - atOf wr b)
    case atStart => exact ⟨q0, [], hq0, Nat.zero_le _, hr, hP1, hu1, World.ownsRow_nil _ _ _ _⟩
    case round =>
      obtain ⟨q, acc, hq, hal, hqr, hP, hU, hown⟩ := hrel
      have hh := fun wz (hg : Gr wr wz) => here_any b s q k hq wz (hP.gr hg)
      have hat := atOf_eq hP
      have hcell : ∀ wz, Gr wr wz → wz.cell? ⟨b, 1, none⟩ = some (.int .i64 (q : Int)) ∧ wz.frozen? ⟨b, 1, none⟩ = false := fun wz hg => ⟨(hP.gr hg).at 1 _ rfl, (hP.gr hg).frozen 1⟩
      have hstep : ∀ wz, Gr wr wz → PAt (wz.setCell ⟨b, 1, none⟩ (.int .i64 ((q : Int) + 1))) b s (q + 1) k ∧ Upd b wr (wz.setCell ⟨b, 1, none⟩ (.int .i64 ((q : Int) + 1))) := fun wz hg => ⟨pat_step (hP.gr hg), (gr_upd hg).setCell 1 _⟩
      have hbad : ∀ wz, Gr wr wz → Calls Tryd.prog 37 #[.pointer (some ⟨b, 0, none⟩), .bool false] wz fun e w' => e = .panicked (faultV q 60) ∧ w' = wz := fun wz hg => insist_false b s q k wz (hP.gr hg)
      rw [quoF_step hq] at hqr
      have hqlt : hereP s.data.toList q ≠ 0 → q < s.size := fun e => here_lt e
      by_cases hc34 : hereP s.data.toList q = 34
      · have hlt := hqlt (by rw [hc34]; decide)
        rw [if_pos hc34] at hqr
        rw [hc34] at hh
        have hcv : ∀ wz, Upd b wr wz → (convert 55 9 u3).run Tryd.prog wz = .ok (.string (strL acc)) wz := fun wz hu => convert_own (owns_upd hown hu hbw)
        clear hown hbad hqlt hc34 hP
        go_wp2_with (go_at_call 60; refine (hh _ (Gr.refl _)).mono ?_; rintro e w2 ⟨rfl, hg⟩; obtain ⟨c1, f1⟩ := hcell w2 hg; obtain ⟨hP2, hU2⟩ := hstep w2 hg; have hcv := hcv _ hU2)
        go_ret
        subst hqr
        exact ⟨hU.trans hU2, _, rfl, rfl, hP2⟩
      · rw [if_neg hc34] at hqr
        have g34 := u8_ne (n := 34) (by decide) hc34
        have g34' : (((hereP s.data.toList q).toNat : Int) != 34) = true := by
          have : (((hereP s.data.toList q).toNat : Int) == 34) = false := g34
          simp only [bne, this]; rfl
        by_cases hc32 : hereP s.data.toList q < 32
        · rw [if_pos hc32] at hqr
          have g32 : ¬ ((hereP s.data.toList q).toNat : Int) ≥ 32 := by
            have : (hereP s.data.toList q).toNat < 32 := UInt8.lt_iff_toNat_lt.1 hc32
            omega
          have g32' : decide (((hereP s.data.toList q).toNat : Int) ≥ 32) = false := by simpa using g32
          clear hown hqlt hc34 hc32 hP hcell hstep
          generalize hereP s.data.toList q = c at hh g34 g34' g32 g32'
          go_wp2_with (first
            | (go_at_call 60; refine (hh _ (Gr.refl _)).mono ?_; rintro e w2 ⟨rfl, hg2⟩)
            | (go_at_call 60; refine (hh _ hg2).mono ?_; rintro e w3 ⟨rfl, hg3⟩; have hbad := hbad w3 (hg2.trans hg3))
            | (go_at_call 37; refine hbad.mono ?_; rintro e w4 ⟨rfl, rfl⟩))
          subst hqr
          exact ⟨rfl, hU.trans (gr_upd (hg2.trans hg3)), rfl⟩
        · rw [if_neg hc32] at hqr
          have g32 : ((hereP s.data.toList q).toNat : Int) ≥ 32 := by
            have : ¬ (hereP s.data.toList q).toNat < 32 := fun e => hc32 (UInt8.lt_iff_toNat_lt.2 e)
            omega
          have g32' : decide (((hereP s.data.toList q).toNat : Int) ≥ 32) = true := by simpa using g32
          have hlt := hqlt (fun e => hc32 (by rw [e]; decide))
          have hgood := @insist_true
          have hle := hU.size
          by_cases hc92 : hereP s.data.toList q = 92
          · rw [if_pos hc92] at hqr
            rw [hc92] at hh
            have hesc : ∀ wz, PAt wz b s (q + 1) k → Calls Tryd.prog 68 #[.pointer (some ⟨b, 0, none⟩)] wz (Done b s k wz (escP s.data.toList (q + 1)) u8V) := fun wz hP => escaped_any b s (q + 1) k hlt (by omega) wz hP
            cases hep : escP s.data.toList (q + 1) with
            | bad q1 e1 =>
              rw [hep] at hesc hqr
              clear hown hqlt hc34 hc32 hP hbad hep g34 g34' g32 g32' hc92
              go_wp2_with (first
                | (go_at_call 60; refine (hh _ (Gr.refl _)).mono ?_; rintro e w2 ⟨rfl, hg2⟩)
                | (go_at_call 60; refine (hh _ hg2).mono ?_; rintro e w3 ⟨rfl, hg3⟩; obtain ⟨c1, f1⟩ := hcell w3 (hg2.trans hg3); obtain ⟨hP3, hU3⟩ := hstep w3 (hg2.trans hg3))
                | (go_at_call 37; refine (hgood _ _).mono ?_; rintro e w4 ⟨rfl, rfl⟩)
                | (go_at_call 68; refine (hesc _ hP3).mono ?_; rintro e w5 ⟨hu5, rfl⟩))
              subst hqr
              exact ⟨rfl, (hU.trans hU3).trans hu5, rfl⟩
            | ok d q1 =>
              have hq1 := escP_le hep
              rw [hep] at hesc hqr
              have hqr : quoF s.data.toList q1 (acc ++ [d]) = r := hqr
              have hown3 : ∀ wz, Upd b wr wz → wz.ownsRow w.heap.size 5 1 u3 acc.length (acc.map byteV) := fun wz hu => owns_upd hown hu hbw
              have e1 : (acc ++ [d]).map byteV = acc.map byteV ++ [.int .u8 (d.toNat : Int)] := by simp; rfl
              have e2 : (acc ++ [d]).length = acc.length + 1 := by simp
              have hqb : acc.length + 1 ≤ 140737488355328 := by omega
              generalize acc.length = n at *
              clear hown hqlt hc34 hc32 hP hbad hep g34 g34' g32 g32' hc92
              go_wp2_with (first
                | (go_at_call 60; refine (hh _ (Gr.refl _)).mono ?_; rintro e w2 ⟨rfl, hg2⟩)
                | (go_at_call 60; refine (hh _ hg2).mono ?_; rintro e w3 ⟨rfl, hg3⟩; obtain ⟨c1, f1⟩ := hcell w3 (hg2.trans hg3); obtain ⟨hP3, hU3⟩ := hstep w3 (hg2.trans hg3))
                | (go_at_call 37; refine (hgood _ _).mono ?_; rintro e w4 ⟨rfl, rfl⟩)
                | (go_at_call 68; refine (hesc _ hP3).mono ?_; rintro e w5 ⟨hu5, _, rfl, rfl, hP5⟩; have hnews : Hid (∀ (k : Nat) (u : Value), [Value.int .u8 (d.toNat : Int)][k]? = some u → (w5.alloc (.cells #[.int .u8 (d.toNat : Int)] 5)).cell? ((⟨w5.heap.size, 0, none⟩ : Addr).add k) = some u) := World.news_of_block (heap_alloc_new w5 _); have hle5 : w.heap.size ≤ w5.heap.size := Nat.le_trans hle ((hU3.trans hu5).size); have hown5 := hown3 w5 (hU3.trans hu5); clear hesc)
                | (at_builtin; refine wpList_append_lies _ rfl (.tmp 27) (.tmp 29) 55 rfl w.heap.size 5 i5 (.int .u8 0) 1 1 und55 F5.out hz5 hs5 hb5 rfl (by omega) u3 n (acc.map byteV) rfl (hown5.alloc _) ⟨w5.heap.size, 0, none⟩ 1 1 [.int .u8 (d.toNat : Int)] rfl rfl hnews.out (by intro u hu; simp at hu; subst hu; rfl) (by omega) (by unfold maxLen; omega) (by omega) (by simp; omega) (w5.heap.size + 1) (by simp) ?_; intro g cap' w6 hown6 hgrow hat6 hlt6))
              have hb6 : Below w.heap.size w5 w6 := ((Below.refl _ w5).alloc hle5 _).grown hgrow (by simp; omega) (fun j e => own_base hown5 j e)
              have hP6 : PAt w6 b s q1 k := hP5.below hb6 hbw
              refine ⟨⟨q1, acc ++ [d], hq1.2, by rw [e2]; omega, hqr, hP6, upd_below ((hU.trans hU3).trans hu5) hb6, by rw [e1, e2]; exact hown6⟩, ?_⟩
              rw [atOf_eq hP6, hat]; omega
          · rw [if_neg hc92] at hqr
            have g92 := u8_ne (n := 92) (by decide) hc92
            have hown3 : ∀ wz, Upd b wr wz → wz.ownsRow w.heap.size 5 1 u3 acc.length (acc.map byteV) := fun wz hu => owns_upd hown hu hbw
            generalize hereP s.data.toList q = c at *
            have e1 : (acc ++ [c]).map byteV = acc.map byteV ++ [.int .u8 (c.toNat : Int)] := by simp; rfl
            have e2 : (acc ++ [c]).length = acc.length + 1 := by simp
            have hqb : acc.length + 1 ≤ 140737488355328 := by omega
            generalize acc.length = n at *
            have hnw : ∀ (W : World) (m : Nat), W.heap.size = m → Hid (∀ (k : Nat) (u : Value), [Value.int .u8 (c.toNat : Int)][k]? = some u → (W.alloc (.cells #[.int .u8 (c.toNat : Int)] 5)).cell? ((⟨m, 0, none⟩ : Addr).add k) = some u) := fun W m e => e ▸ World.news_of_block (heap_alloc_new W _)
            clear hown hqlt hc34 hc32 hP hbad hc92
            go_wp2_with (first
              | (go_at_call 60; refine (hh _ (Gr.refl _)).mono ?_; rintro e w2 ⟨rfl, hg2⟩)
              | (go_at_call 60; refine (hh _ hg2).mono ?_; rintro e w3 ⟨rfl, hg3⟩; obtain ⟨c1, f1⟩ := hcell w3 (hg2.trans hg3); obtain ⟨hP3, hU3⟩ := hstep w3 (hg2.trans hg3); have hnews := hnw (w3.setCell ⟨b, 1, none⟩ (.int .i64 ((q : Int) + 1))) w3.heap.size (by simp); have hle5 : w.heap.size ≤ w3.heap.size := Nat.le_trans hle (Below.size (hg2.trans hg3)); have hown5 := hown3 _ hU3)
              | (go_at_call 37; refine (hgood _ _).mono ?_; rintro e w4 ⟨rfl, rfl⟩)
              | (at_builtin; refine wpList_append_lies _ rfl (.tmp 27) (.tmp 29) 55 rfl w.heap.size 5 i5 (.int .u8 0) 1 1 und55 F5.out hz5 hs5 hb5 rfl (by omega) u3 n (acc.map byteV) rfl (hown5.alloc _) ⟨w4.heap.size, 0, none⟩ 1 1 [.int .u8 (c.toNat : Int)] rfl rfl hnews.out (by intro u hu; simp at hu; subst hu; rfl) (by omega) (by unfold maxLen; omega) (by omega) (by simp; omega) (w4.heap.size + 1) (by simp) ?_; intro g cap' w6 hown6 hgrow hat6 hlt6))
            have hb6 : Below w.heap.size (w4.setCell ⟨b, 1, none⟩ (.int .i64 ((q : Int) + 1))) w6 := ((Below.refl _ _).alloc (by simpa using hle5) _).grown hgrow (by simp; omega) (fun j e => own_base hown5 j e)
            have hP6 : PAt w6 b s (q + 1) k := hP3.below hb6 hbw
            refine ⟨⟨q + 1, acc ++ [c], hlt, by rw [e2]; omega, hqr, hP6, upd_below (hU.trans hU3) hb6, by rw [e1, e2]; exact hown6⟩, ?_⟩
            rw [atOf_eq hP6, hat]; omega
end Go.Proofs.YtogippkapadolaaDoor

/- The names that are taken: a set in a map. -/
namespace Go.Proofs.YtogippkapadolaaDoor
open Go.RowKit Go.Maps Go.WideMaps

theorem und53 : Tryd.prog.underlying 53 = some (.map 9 71) := by kernel_rfl
theorem law9 : Keyed Tryd.prog 9 := string_keyed und9
theorem zero71 (w : World) : (zeroValue 71).run Tryd.prog w = .ok (.agg #[]) w := by kernel_rfl
theorem key_of (s : List UInt8) (h : s.length ≤ maxLen) : keyOf Tryd.prog 9 (.string (strL s)) = some (.string s) := keyOf_string_mk (s := strL s) und9 h
structure SetOf (D : DataW Unit) (l : List (List UInt8)) : Prop where
  has_ : ∀ s, has D (.string s) = decide (s ∈ l)
  size_ : Maps.size D ≤ l.length
def NmsAt (w : World) (mb : Nat) (l : List (List UInt8)) : Prop := ∃ n D, w.ownsMap Tryd.prog 9 unitElem mb n D ∧ SetOf D l
theorem NmsAt.same {w w' : World} {mb : Nat} {l : List (List UInt8)} (h : NmsAt w mb l) (hs : w'.heap[mb]? = w.heap[mb]?) : NmsAt w' mb l := by
  obtain ⟨n, D, ⟨es, cl, hb, r⟩, h1⟩ := h
  exact ⟨n, D, ⟨es, cl, hs.trans hb, r⟩, h1⟩
theorem NmsAt.lt {w : World} {mb : Nat} {l : List (List UInt8)} (h : NmsAt w mb l) : mb < w.heap.size := by
  obtain ⟨n, D, ⟨es, cl, hb, r⟩, h1⟩ := h
  exact (Array.getElem?_eq_some_iff.1 hb).1
theorem NmsAt.isMap {w : World} {mb : Nat} {l : List (List UInt8)} (h : NmsAt w mb l) : ∃ es c, w.heap[mb]? = some (Obj.map es c) := by
  obtain ⟨n, D, ⟨es, cl, hb, r⟩, h1⟩ := h
  exact ⟨es, cl, hb⟩
theorem NmsAt.upd {w w' : World} {mb b : Nat} {l : List (List UInt8)} (h : NmsAt w mb l) (hu : Upd b w w') (hne : mb ≠ b) : NmsAt w' mb l := h.same (hu.block mb h.lt hne)
theorem nms_made (w : World) : NmsAt (w.alloc (.map #[] 0)) w.heap.size [] :=
  ⟨0, .map [], World.ownsMap_made w Tryd.prog 9 unitElem, fun _ => by simp [has], Nat.le_refl _⟩
theorem tight {w : World} {mb n : Nat} {D : DataW Unit} (h : w.ownsMap Tryd.prog 9 unitElem mb n D) : w.ownsMap Tryd.prog 9 unitElem mb (Maps.size D) D := by
  obtain ⟨es, clock, hb, F, hs, hD⟩ := h
  refine ⟨es, clock, hb, F, ?_, hD⟩
  rw [hD]
  show es.size ≤ List.length _
  rw [length_read]
  exact Nat.le_refl _
theorem NmsAt.look {w : World} {mb : Nat} {l : List (List UInt8)} (h : NmsAt w mb l) (s : List UInt8) (hs : s.length ≤ maxLen) :
    (Instr.lookup 53 (.map (some mb)) (.string (strL s)) true).run Tryd.prog w = .ok (.tuple #[.agg #[], .bool (decide (s ∈ l))]) w := by
  obtain ⟨n, D, hown, hM⟩ := h
  obtain ⟨v, ps, hr, hv⟩ := hown.look_ok law9 und53 (zero71 w) unitElem_mk (key_of s hs)
  rw [hr, (unitElem_inv hv).1, hM.has_ s]
theorem upd_of {w w' : World} {mb : Nat} (h : w.mapTurned w' mb) : Upd mb w w' := by
  have hg := h.grown
  exact ⟨hg.os, hg.tape, hg.output, hg.size, fun i hi hne => hg.block i hi (by simpa using hne)⟩
theorem lit_ne {a b : List UInt8} (h : a ≠ b) : ¬ Lit.string a = .string b := fun e => h (by cases e; rfl)
theorem NmsAt.store {w : World} {mb : Nat} {l : List (List UInt8)} (h : NmsAt w mb l) (hl : l.length < maxLen) (s : List UInt8) (hs : s.length ≤ maxLen) :
    ∃ w', (Instr.mapUpdate 53 (.map (some mb)) (.string (strL s)) (.agg #[])).run Tryd.prog w = .ok () w' ∧ NmsAt w' mb (l ++ [s]) ∧ Upd mb w w' := by
  obtain ⟨n, D, hown, hM⟩ := h
  obtain ⟨w1, hput, hown1, hturn1⟩ := (tight hown).store law9 und53 (by have := hM.size_; omega) (key_of s hs) unitElem_mk
  refine ⟨w1, hput, ⟨_, _, hown1, fun x => ?_, ?_⟩, upd_of hturn1⟩
  · by_cases e : x = s
    · subst e
      rw [has_put_same hown.isMap (show WideAt.IsKeyLit (Lit.string x) from trivial)]; simp
    · rw [has_put_other (lit_ne e), hM.has_]; simp [e]
  · rw [size_put (hown.tidy law9)]
    have := hM.size_
    simp only [List.length_append, List.length_cons, List.length_nil]
    split <;> omega
set_option maxHeartbeats 1000000 in
set_option maxRecDepth 100000 in
theorem take_any {w : World} {mb : Nat} {l : List (List UInt8)} {s : List UInt8} (h : NmsAt w mb l) (hl : l.length < maxLen) (hs : s.length ≤ maxLen) :
    Calls Tryd.prog 23 #[.map (some mb), .string (strL s)] w fun e w' => e = .returned (.bool (!decide (s ∈ l))) ∧ NmsAt w' mb (l ++ [s]) ∧ Upd mb w w' := by
  have h1 := h.look s hs
  have hw : NmsAt (w.alloc (.cells #[] 71)) mb l := h.upd (b := w.heap.size) ((Upd.refl _ w).alloc _) (by have := h.lt; omega)
  obtain ⟨w2, h2, h3, h4⟩ := hw.store hl s hs
  have fin : Upd mb w w2 := ((Upd.refl mb w).alloc _).trans h4
  generalize decide (s ∈ l) = t at *
  clear hw h4 h hl hs
  generalize strL s = z at *
  go_enter Tryd.func23, Tryd.ntmps23
  go_wp2
  go_ret
  exact ⟨rfl, h3, fin⟩
end Go.Proofs.YtogippkapadolaaDoor

/- A name in an object. -/
namespace Go.Proofs.YtogippkapadolaaDoor
open Go.RowKit

/-- All but two blocks are as they were. -/
structure Up2 (b m : Nat) (w w' : World) : Prop where
  os : w'.os = w.os
  tape : w'.tape = w.tape
  output : w'.output = w.output
  size : w.heap.size ≤ w'.heap.size
  block : ∀ k, k < w.heap.size → k ≠ b → k ≠ m → w'.heap[k]? = w.heap[k]?
theorem Upd.two {b m : Nat} {w w' : World} (h : Upd b w w') : Up2 b m w w' := ⟨h.os, h.tape, h.output, h.size, fun k hk h1 _ => h.block k hk h1⟩
theorem Upd.two' {b m : Nat} {w w' : World} (h : Upd m w w') : Up2 b m w w' := ⟨h.os, h.tape, h.output, h.size, fun k hk _ h2 => h.block k hk h2⟩
theorem Up2.trans {b m : Nat} {x y z : World} (h : Up2 b m x y) (k : Up2 b m y z) : Up2 b m x z := ⟨k.os.trans h.os, k.tape.trans h.tape, k.output.trans h.output, Nat.le_trans h.size k.size, fun j hj h1 h2 => (k.block j (Nat.lt_of_lt_of_le hj h.size) h1 h2).trans (h.block j hj h1 h2)⟩
/-- What name comes to. -/
def NameP (b mb : Nat) (s : ByteArray) (k : Nat) (names : List (List UInt8)) (w : World) (r : Res (List UInt8)) : Ending → World → Prop := fun e w' => Up2 b mb w w' ∧ match r with
  | .ok nm q => e = .returned (.string (strL nm)) ∧ PAt w' b s q k ∧ NmsAt w' mb (names ++ [nm])
  | .bad q er => e = .panicked (faultV q er)
set_option maxHeartbeats 1000000 in
set_option maxRecDepth 100000 in
theorem name_any (b mb : Nat) (s : ByteArray) (p k : Nat) (names : List (List UInt8)) (hp : p ≤ s.size) (hs : s.size ≤ 140737488355327) (hn : names.length ≤ s.size) (w : World) (h : PAt w b s p k) (hm : NmsAt w mb names) :
    Calls Tryd.prog 72 #[.pointer (some ⟨b, 0, none⟩), .map (some mb)] w (NameP b mb s k names w (nameP s.data.toList names p)) := by
  have hsl : s.data.toList.length = s.size := rfl
  have hne : mb ≠ b := fun e => by
    obtain ⟨es, c, hb⟩ := hm.isMap
    subst e
    have := h
    unfold PAt Holds at this
    rw [hb] at this
    cases this
  have hnx := next_any b s p k hp (by omega) w h
  have hle : nextP s.data.toList p ≤ s.size := next_le hp
  unfold nameP
  obtain ⟨m, hmm⟩ : ∃ m, nextP s.data.toList p = m := ⟨_, rfl⟩
  rw [hmm] at hnx hle ⊢
  have hq : ∀ wz, PAt wz b s m k → Calls Tryd.prog 56 #[.pointer (some ⟨b, 0, none⟩)] wz (Done b s k wz (quoP s.data.toList m) strV) := fun wz hP => quoted_any b s m k hle hs wz hP
  have hcell : ∀ wz, PAt wz b s m k → wz.cell? ⟨b, 1, none⟩ = some (.int .i64 (m : Int)) := fun wz hP => hP.at 1 _ rfl
  cases hr : quoP s.data.toList m with
  | bad q1 e1 =>
    rw [hr] at hq
    clear h hm hr
    go_enter Tryd.func72, Tryd.ntmps72
    go_wp2_with (first
      | (go_at_call 36; refine hnx.mono ?_; rintro e w1 ⟨rfl, hP1, hu1⟩; have c1 := hcell w1 hP1; clear hnx)
      | (go_at_call 56; refine (hq _ hP1).mono ?_; rintro e w2 ⟨hu2, rfl⟩))
    exact ⟨rfl, (hu1.trans hu2).two, rfl⟩
  | ok l q1 =>
    rw [hr] at hq
    have hql := quoP_le hle hr
    have htk : ∀ wz, NmsAt wz mb names → Calls Tryd.prog 23 #[.map (some mb), .string (strL l)] wz fun e w' => e = .returned (.bool (!decide (l ∈ names))) ∧ NmsAt w' mb (names ++ [l]) ∧ Upd mb wz w' := fun wz hm => take_any hm (by unfold maxLen; omega) (by unfold maxLen; omega)
    by_cases hin : l ∈ names
    · rw [show (!decide (l ∈ names)) = false by simp [hin]] at htk
      show Calls _ _ _ _ (NameP b mb s k names w (if l ∈ names then _ else _))
      rw [if_pos hin]
      have hgv := giveUp_any m 60
      clear h hr hin
      go_enter Tryd.func72, Tryd.ntmps72
      go_wp2_with (first
        | (go_at_call 36; refine hnx.mono ?_; rintro e w1 ⟨rfl, hP1, hu1⟩; have c1 := hcell w1 hP1; have hm1 := hm.upd hu1 hne; clear hnx)
        | (go_at_call 56; refine (hq _ hP1).mono ?_; rintro e w2 ⟨hu2, _, rfl, rfl, hP2⟩; have hm2 := hm1.upd hu2 hne; clear hq)
        | (go_at_call 23; refine (htk _ hm2).mono ?_; rintro e w3 ⟨rfl, _, hu3⟩; clear htk)
        | (go_at_call 61; refine (hgv _).mono ?_; rintro e w4 ⟨rfl, rfl⟩))
      exact ⟨rfl, ((hu1.trans hu2).two).trans hu3.two', rfl⟩
    · rw [show (!decide (l ∈ names)) = true by simp [hin]] at htk
      show Calls _ _ _ _ (NameP b mb s k names w (if l ∈ names then _ else _))
      rw [if_neg hin]
      have hnx2 : ∀ wz, PAt wz b s q1 k → Calls Tryd.prog 36 #[.pointer (some ⟨b, 0, none⟩)] wz fun e w' => e = .returned (.int .u8 ((hereP s.data.toList (nextP s.data.toList q1)).toNat : Int)) ∧ PAt w' b s (nextP s.data.toList q1) k ∧ Upd b wz w' := fun wz hP => next_any b s q1 k hql.2.1 (by omega) wz hP
      have hle2 : nextP s.data.toList q1 ≤ s.size := next_le hql.2.1
      obtain ⟨m2, hm2⟩ : ∃ m2, nextP s.data.toList q1 = m2 := ⟨_, rfl⟩
      rw [hm2] at hnx2 hle2 ⊢
      have hps : ∀ wz, PAt wz b s m2 k → Calls Tryd.prog 55 #[.pointer (some ⟨b, 0, none⟩), .string ⟨#[58]⟩] wz (Done b s k wz (passP s.data.toList [58] m2) nilV) := fun wz hP => pass_any b s m2 k ⟨#[58]⟩ hle2 (by omega) (by decide) wz hP
      have hne' : b ≠ mb := fun e => hne e.symm
      cases hp2 : passP s.data.toList [58] m2 with
      | bad q2 e2 =>
        rw [hp2] at hps
        clear h hr hin hm2 hmm hp2
        go_enter Tryd.func72, Tryd.ntmps72
        go_wp2_with (first
          | (go_at_call 36; refine hnx.mono ?_; rintro e w1 ⟨rfl, hP1, hu1⟩; have c1 := hcell w1 hP1; have hm1 := hm.upd hu1 hne; clear hnx)
          | (go_at_call 56; refine (hq _ hP1).mono ?_; rintro e w2 ⟨hu2, _, rfl, rfl, hP2⟩; have hm2 := hm1.upd hu2 hne; clear hq)
          | (go_at_call 23; refine (htk _ hm2).mono ?_; rintro e w3 ⟨rfl, hm3, hu3⟩; have hP3 := hP2.upd hu3 hne'; clear htk)
          | (go_at_call 36; refine (hnx2 _ hP3).mono ?_; rintro e w4 ⟨rfl, hP4, hu4⟩; clear hnx2)
          | (go_at_call 55; refine (hps _ hP4).mono ?_; rintro e w5 ⟨hu5, rfl⟩))
        exact ⟨rfl, (((hu1.trans hu2).two).trans hu3.two').trans (hu4.trans hu5).two, rfl⟩
      | ok _ q2 =>
        rw [hp2] at hps
        clear h hr hin hm2 hmm hp2
        go_enter Tryd.func72, Tryd.ntmps72
        go_wp2_with (first
          | (go_at_call 36; refine hnx.mono ?_; rintro e w1 ⟨rfl, hP1, hu1⟩; have c1 := hcell w1 hP1; have hm1 := hm.upd hu1 hne; clear hnx)
          | (go_at_call 56; refine (hq _ hP1).mono ?_; rintro e w2 ⟨hu2, _, rfl, rfl, hP2⟩; have hm2 := hm1.upd hu2 hne; clear hq)
          | (go_at_call 23; refine (htk _ hm2).mono ?_; rintro e w3 ⟨rfl, hm3, hu3⟩; have hP3 := hP2.upd hu3 hne'; clear htk)
          | (go_at_call 36; refine (hnx2 _ hP3).mono ?_; rintro e w4 ⟨rfl, hP4, hu4⟩; have hm4 := hm3.upd hu4 hne; clear hnx2)
          | (go_at_call 55; refine (hps _ hP4).mono ?_; rintro e w5 ⟨hu5, _, rfl, rfl, hP5⟩; have hm5 := hm4.upd hu5 hne))
        go_ret
        exact ⟨(((hu1.trans hu2).two).trans hu3.two').trans (hu4.trans hu5).two, rfl, hP5, hm5⟩
end Go.Proofs.YtogippkapadolaaDoor

/- How a value of JSON lies in memory. -/
namespace Go.Proofs.YtogippkapadolaaDoor
open Go.RowKit

/-- Some cells lie where ad points, in a block of S. -/
def Lies (w : World) (S : Nat → Prop) (ad : Option Addr) (cs : List Value) : Prop := cs = [] ∨ ∃ g o, ad = some ⟨g, o, none⟩ ∧ S g ∧ g < w.heap.size ∧ w.rangeAt g o cs
theorem Lies.mono {w w' : World} {S S' : Nat → Prop} {ad : Option Addr} {cs : List Value} (h : Lies w S ad cs) (hk : ∀ k, S k → k < w.heap.size → S' k ∧ w'.heap[k]? = w.heap[k]?) : Lies w' S' ad cs := by
  rcases h with h | ⟨g, o, rfl, hs, hlt, hr⟩
  · exact .inl h
  · have ⟨h1, h2⟩ := hk g hs hlt
    refine .inr ⟨g, o, rfl, h1, ?_, fun j v hv => ?_⟩
    · rcases Nat.lt_or_ge g w'.heap.size with q | q
      · exact q
      · rw [Array.getElem?_eq_none q, Array.getElem?_eq_getElem hlt] at h2; cases h2
    · rw [← hr j v hv]
      simp only [World.cell?, h2]
def strV1 (s : List UInt8) : Value := .string (strL s)
def jsonV (k : Int) (b : Bool) (n : Int) (s : List UInt8) (la na : Option Addr) (ll lc nl nc : Nat) : List Value := [.int .i64 k, .bool b, .int .i64 n, .string (strL s), .slice la ll lc, .slice na nl nc]
/-- v says j in w; what it points to lies in blocks of S. -/
inductive JAt (w : World) (S : Nat → Prop) : J → Value → Prop where
  | mk (k : Int) (b : Bool) (n : Int) (s : List UInt8) (l : List J) (names : List (List UInt8)) (la na : Option Addr) (lc nc : Nat) (es : List (List Value)) (hes : es.length = l.length)
      (h6 : ∀ c ∈ es, c.length = 6) (hl : ∀ (i : Nat) (x : J) (c : List Value), l[i]? = some x → es[i]? = some c → JAt w S x (.agg c.toArray)) (hlies : Lies w S la es.flatten) (hnames : Lies w S na (names.map strV1)) :
      JAt w S (.mk k b n s l names) (.agg (jsonV k b n s la na l.length lc names.length nc).toArray)
theorem JAt.mono {w w' : World} {S S' : Nat → Prop} {j : J} {v : Value} (h : JAt w S j v) (hk : ∀ k, S k → k < w.heap.size → S' k ∧ w'.heap[k]? = w.heap[k]?) : JAt w' S' j v := by
  induction h with
  | mk k b n s l names la na lc nc es hes h6 hl hlies hnames ih =>
    exact .mk k b n s l names la na lc nc es hes h6 ih (hlies.mono hk) (hnames.mono hk)
theorem JAt.gr {w w' : World} {S : Nat → Prop} {j : J} {v : Value} (h : JAt w S j v) (hg : Gr w w') : JAt w' S j v := h.mono fun k hs hk => ⟨hs, hg.block k hk⟩
end Go.Proofs.YtogippkapadolaaDoor

/- The engine: as EngP, but behind the tail's first operation (an append) two pairs go in whatever order: where the new row's last element is laid, and where the row is laid. -/
namespace Go.Proofs.YtogippkapadolaaDoor
open Go.RowKit
variable {P : Program} {ops : Array Oper} {Q : Exit → Act → World → Prop} {R : World → World → Prop}
def starB (ops : Array Oper) (m : Nat) : Bool := (List.range ops.size).all fun k => decide (k ≤ m) || edgeB ops k m
theorem star_spec {m k : Nat} (h : starB ops m = true) (hk : m < k) (hs : k < ops.size) : ∃ o e, ops[k]? = some o ∧ e ∈ o.after ∧ Region.binds .any e = true ∧ e.on = m := by
  have := List.all_eq_true.1 h k (List.mem_range.2 hs)
  rw [Bool.or_eq_true] at this
  rcases this with q | b2
  · have := of_decide_eq_true q; omega
  · unfold edgeB at b2
    cases ho : ops[k]? with
    | none => rw [ho] at b2; cases b2
    | some o =>
      rw [ho] at b2
      obtain ⟨e, he, hb⟩ := List.any_eq_true.1 b2
      rw [Bool.and_eq_true] at hb
      exact ⟨o, e, rfl, by simpa using he, hb.1, of_decide_eq_true hb.2⟩
theorem star_closed {m : Nat} {listed : Array Bool} (hch : starB ops m = true) (hcl : ∀ (j : Nat) (o : Oper), ops[j]? = some o → listed.getD j false = true → ∀ e ∈ o.after, Region.binds .any e = true → listed.getD e.on false = true) : ∀ j, m ≤ j → j < ops.size → listed.getD j false = true → listed.getD m false = true := by
  intro j h1 h2 h3
  by_cases e : m = j
  · rw [e]; exact h3
  · obtain ⟨o, ed, ho, he, hb, hon⟩ := star_spec hch (show m < j by omega) h2
    have := hcl j o ho h3 ed he hb
    rw [hon] at this; exact this
theorem drawn_star {id : Nat} {a0 : Act} {w : World} (rt : ∀ {x y z}, R x y → R y z → R x z) (rg : ∀ {x y}, Gr x y → R x y) (hm : P.follows .mixedOrders = true) (hlex : lexOk ops = true) (hon : onceB ops = true) (m : Nat) (hsz : m < ops.size) (hcov : coverB ops m = true) (hch : starB ops m = true) (D C : List Nat) (hCn : C.Nodup) (T : Nat → FactR R) (S : Nat → World → Prop)
    (hD : ((ops.toList.take m).all fun o => match o.dst with | some d => D.contains d | none => true) = true) (hC : (C.all fun d => dstsB ops m d) = true)
    (s0 : S 0 w) (sg : ∀ {k x y}, S k x → Gr x y → S k y)
    (hstep : ∀ o ∈ ops.toList.take m, (StepR P ops D T a0 w Q o ∧ ∀ d, o.dst = some d → C.contains d = false) ∨ ∃ i d, C[i]? = some d ∧ o.dst = some d ∧ (i = 0 ∨ ∃ d', C[i - 1]? = some d' ∧ needsB ops o d' = true) ∧ StepC P ops D T S a0 w Q i o)
    (hend : ∀ (a : Act) (x : World), After D a0 a → R w x → S C.length x → (∀ s, dstsB ops m s = true → s < a0.tmps.size → (T s).holds (a.eval (.tmp s)) x) → ∀ (fuel : Nat) (listed : Array Bool), listed.size = ops.size → ops.size - m ≤ fuel → (∀ j, j < m → listed.getD j false = true) → (∀ j, m ≤ j → j < ops.size → listed.getD j true = false) → wpAny P .any ops Q fuel listed a x) :
    (Code.region id ops true).wp P Q a0 w := by
  refine wp_region_any hm ?_
  have key : ∀ (fuel : Nat) (listed : Array Bool) (f : Env) (a : Act) (x : World), listed.size = ops.size → (unlisted ops listed).length ≤ fuel → listed.getD m true = false → MidP ops D C T S a0 w f listed a x → wpAny P .any ops Q fuel listed a x := by
    intro fuel
    induction fuel with
    | zero =>
      intro listed f a x hz hu hl h
      have : m ∈ unlisted ops listed := List.mem_filter.2 ⟨List.mem_range.2 (by omega), by rw [hl]; rfl⟩
      have hnil : unlisted ops listed = [] := List.eq_nil_of_length_eq_zero (by omega)
      rw [hnil] at this; cases this
    | succ fuel ih =>
      intro listed f a x hz hu hlm h
      refine ⟨fun hr => ?_, fun i hi => ?_⟩
      · have := all_listed hlex hz hr m (by omega)
        rw [hlm] at this; cases this
      · obtain ⟨h0, o, ho, haf⟩ := mem_ready.1 hi
        have hil := (Array.getElem?_eq_some_iff.1 ho).1
        have hif : listed.getD i false = false := by
          have hs : i < listed.size := by omega
          simpa [hs] using h0
        by_cases him : i = m
        · subst him
          have hall : ∀ n j, i ≤ j + n → j < i → listed.getD j false = true := by
            intro n
            induction n with
            | zero => intro j h1 h2; omega
            | succ n ihn =>
              intro j h1 h2
              obtain ⟨k, ok, e, hjk, hk, hok, he, hb, hon⟩ := cover_spec hcov h2
              by_cases hki : k = i
              · subst hki
                rw [ho] at hok
                cases hok
                have := haf e he hb
                rw [hon] at this; exact this
              · have := h.closed k ok hok (ihn k (by omega) (by omega)) e he hb
                rw [hon] at this; exact this
          have hall : ∀ j, j < i → listed.getD j false = true := fun j hj => hall i j (by omega) hj
          have hfil : ∀ s, dstsB ops i s = true → (f s).isSome = true := fun s hs => by
            obtain ⟨oj, hoj, hd⟩ := List.any_eq_true.1 hs
            have hd := of_decide_eq_true hd
            obtain ⟨j, hj⟩ := List.mem_iff_getElem?.1 hoj
            have hjk : j < i := by
              have := (List.getElem?_eq_some_iff.1 hj).1
              simp at this; omega
            rw [List.getElem?_take_of_lt hjk] at hj
            exact h.done j oj s (by simpa using hj) (hall j hjk) hd
          obtain ⟨k, hkC, hSk, hk⟩ := h.st
          have hkl : k = C.length := by
            rcases Nat.eq_zero_or_pos C.length with q | q
            · omega
            · have hl1 : C.length - 1 < C.length := by omega
              have hc : C[C.length - 1]? = some C[C.length - 1] := List.getElem?_eq_getElem hl1
              have := (hk _ _ hc).1 (hfil _ (List.all_eq_true.1 hC _ (List.getElem_mem hl1)))
              omega
          have hwl := hend a x (h.over.after h.out) h.grown (hkl ▸ hSk) (fun s hs hsz' => by
            obtain ⟨v, hv⟩ := Option.isSome_iff_exists.1 (hfil s hs)
            rw [h.over.get hsz' hv]
            exact h.fact s v hv)
          have hlate : ∀ j, i ≤ j → j < ops.size → listed.getD j true = false := fun j h1 h2 => by
            cases hl : listed.getD j true with
            | false => rfl
            | true =>
              exfalso
              have hbad := star_closed hch h.closed j h1 h2 (by
                have hs : j < listed.size := by omega
                simp [hs] at hl ⊢; exact hl)
              have hs : i < listed.size := by omega
              simp [hs] at hlm hbad
              rw [hlm] at hbad; cases hbad
          have := (hwl (fuel + 1) listed hz (by
            have h9 : (unlisted ops listed).length ≤ fuel + 1 := hu
            have h8 : ops.size - i ≤ (unlisted ops listed).length := late_len hlate
            omega) hall hlate).2 i hi
          exact this
        · have hlt' : i < m := by
            rcases Nat.lt_or_ge i m with q | q
            · exact q
            · exfalso
              obtain ⟨o1, e1, ho1, he1, hb1, hon⟩ := star_spec hch (show m < i by omega) hil
              rw [ho] at ho1
              cases ho1
              have hbad := haf e1 he1 hb1
              rw [hon] at hbad
              have hs : m < listed.size := by omega
              simp [hs] at hlm hbad
              rw [hlm] at hbad; cases hbad
          have hmem : o ∈ ops.toList.take m := by
            rw [List.mem_iff_getElem?]
            exact ⟨i, by rw [List.getElem?_take_of_lt (by omega)]; simpa using ho⟩
          have hneed : ∀ s, needsB ops o s = true → (f s).isSome = true := fun s hs => by
            obtain ⟨e, he, hb⟩ := List.any_eq_true.1 hs
            rw [Bool.and_eq_true] at hb
            have b2 := of_decide_eq_true hb.2
            cases hoj : ops[e.on]? with
            | none => rw [hoj] at b2; cases b2
            | some oj =>
              rw [hoj] at b2
              exact h.done e.on oj s hoj (haf e (by simpa using he) hb.1) b2
          have hc : CtxR ops D T a0 w o f a x := ⟨h.over, h.grown, fun s hs => by
            obtain ⟨v, hv⟩ := Option.isSome_iff_exists.1 (hneed s hs)
            exact ⟨v, hv, h.fact s v hv⟩, h.out⟩
          have hnone : ∀ d, o.dst = some d → f d = none := fun d hd => by
            cases hf : f d with
            | none => rfl
            | some v =>
              obtain ⟨j, p, hj, hl, hp⟩ := h.from_ d (by rw [hf]; rfl)
              obtain rfl := once_spec hon ho hj hd hp
              rw [hif] at hl; cases hl
          have hDo : ∀ d, o.dst = some d → d ∈ D := fun d hd => by
            have := List.all_eq_true.1 hD o hmem
            rw [hd] at this
            simpa using this
          have hun : i ∈ unlisted ops listed := List.mem_filter.2 ⟨List.mem_range.2 hil, by rw [h0]; rfl⟩
          have hlt : (unlisted ops (listed.setIfInBounds i true)).length < (unlisted ops listed).length := by
            have hsub : unlisted ops (listed.setIfInBounds i true) = (unlisted ops listed).filter fun j => decide (j ≠ i) := by
              unfold unlisted
              rw [List.filter_filter]
              apply List.filter_congr
              intro j hj
              by_cases e : i = j
              · subst e
                have : i < listed.size := by omega
                simp [this]
              · rw [getD_set_ne true e]
                have e' : ¬ j = i := fun q => e q.symm
                simp [e']
            rw [hsub]
            exact List.length_filter_lt_length_iff_exists.2 ⟨i, hun, by simp⟩
          have next : ∀ (v : Value) (y : World), R x y → (∃ k, k ≤ C.length ∧ S k y ∧ ∀ j d, C[j]? = some d → ((putE f o.dst v d).isSome = true ↔ j < k)) → (∀ d, o.dst = some d → (T d).holds v y) → wpAny P .any ops Q fuel (listed.setIfInBounds i true) (a.put o.dst v) y := fun v y r1 hst f1 => by
            refine ih (listed.setIfInBounds i true) (putE f o.dst v) _ y (by simp [hz]) (by omega) (by rw [getD_set_ne true him]; exact hlm) ⟨h.over.put o.dst v, rt h.grown r1, fun s u hs => ?_, fun j oj d hoj hl hd => ?_, fun s hs => ?_, fun j oj hoj hl e he hb => ?_, fun d hd => ?_, hst⟩
            · unfold putE at hs
              by_cases e : o.dst = some s
              · rw [if_pos e] at hs
                cases hs
                exact f1 s e
              · rw [if_neg e] at hs
                exact (T s).mono (h.fact s u hs) r1
            · unfold putE
              by_cases e : o.dst = some d
              · rw [if_pos e]; rfl
              · rw [if_neg e]
                by_cases hji : i = j
                · subst hji
                  rw [ho] at hoj
                  cases hoj
                  exact absurd hd e
                · rw [getD_set_ne false hji] at hl
                  exact h.done j oj d hoj hl hd
            · unfold putE
              by_cases e : o.dst = some s
              · exact absurd (hDo s e) hs
              · rw [if_neg e]; exact h.out s hs
            · have hle : listed.getD e.on false = true := by
                by_cases hji : i = j
                · subst hji
                  rw [ho] at hoj
                  cases hoj
                  exact haf e he hb
                · rw [getD_set_ne false hji] at hl
                  exact h.closed j oj hoj hl e he hb
              by_cases q : i = e.on
              · have : i < listed.size := by omega
                rw [← q]; simp [this]
              · rw [getD_set_ne false q]; exact hle
            · unfold putE at hd
              by_cases e : o.dst = some d
              · refine ⟨i, o, ho, ?_, e⟩
                have hs : i < listed.size := by omega
                simp [hs]
              · rw [if_neg e] at hd
                obtain ⟨j, p, hj, hl, hp⟩ := h.from_ d hd
                refine ⟨j, p, hj, ?_, hp⟩
                by_cases hji : i = j
                · subst hji
                  rw [hif] at hl; cases hl
                · rw [getD_set_ne false hji]; exact hl
          obtain ⟨k, hkC, hSk, hk⟩ := h.st
          unfold wpOp
          rcases hstep o hmem with ⟨hR, hnC⟩ | ⟨c, d, hcd, hod, hpre, hSC⟩
          · obtain ⟨hw, hwp⟩ := hR f a x hc
            simp only [ho, hw, if_true]
            refine .inl (Oper.wp_mono (fun a' y ⟨v, e1, r1, f1⟩ => ?_) hwp)
            subst e1
            refine next v y (rg r1) ⟨k, hkC, sg hSk r1, fun j d hj => ?_⟩ f1
            have : putE f o.dst v d = f d := by
              unfold putE
              rw [if_neg]
              intro e
              have h1 := hnC d e
              have h2 : C.contains d = true := by
                rw [List.contains_iff_mem]
                exact List.mem_iff_getElem?.2 ⟨j, hj⟩
              rw [h1] at h2; cases h2
            rw [this]; exact hk j d hj
          · have hfd : f d = none := hnone d hod
            have hck : k = c := by
              have h1 : ¬ c < k := fun q => by
                have := (hk c d hcd).2 q
                rw [hfd] at this; cases this
              rcases hpre with rfl | ⟨d', hd', hnd⟩
              · omega
              · have := (hk _ _ hd').1 (hneed d' hnd)
                omega
            subst hck
            have hcl : k < C.length := (List.getElem?_eq_some_iff.1 hcd).1
            obtain ⟨hw, hwp⟩ := hSC f a x hc hSk
            simp only [ho, hw, if_true]
            refine .inl (Oper.wp_mono (fun a' y ⟨v, e1, r1, s1, f1⟩ => ?_) hwp)
            subst e1
            refine next v y r1 ⟨k + 1, hcl, s1, fun j d2 hj => ?_⟩ f1
            unfold putE
            by_cases e : d = d2
            · subst e
              have hjk : j = k := by
                have hjl := (List.getElem?_eq_some_iff.1 hj).1
                exact (List.getElem?_inj hjl hCn).1 (hj.trans hcd.symm)
              rw [if_pos hod, hjk]
              simp
            · rw [if_neg (by rw [hod]; intro q; exact e (Option.some.inj q)), hk j d2 hj]
              have hjk : j ≠ k := fun q => by
                rw [q, hcd] at hj
                exact e (Option.some.inj hj)
              omega
  refine key ops.size (Array.replicate ops.size false) (fun _ => none) a0 _ (by simp) ?_ (by simp [hsz]) ⟨Over.start a0, rg (Gr.drew w), (fun s v h => nomatch h), fun j o d _ hl _ => ?_, fun _ _ => rfl, fun j o _ hl _ _ _ => ?_, (fun d h => nomatch h), ⟨0, Nat.zero_le _, sg s0 (Gr.drew w), fun j d _ => ⟨(fun h => nomatch h), fun h => absurd h (Nat.not_lt_zero _)⟩⟩⟩
  · exact Nat.le_trans (List.length_filter_le _ _) (by simp)
  all_goals
    exfalso
    have : (Array.replicate ops.size false).getD j false = false := by
      by_cases hj : j < ops.size <;> simp [hj]
    rw [this] at hl; cases hl

/-- What is done of a region of m + 5 operations: the first m, the append (z), of the first pair (1), (2), of the second (3), (4). -/
def LB (m : Nat) (z b1 b2 b3 b4 : Bool) : Array Bool := (List.replicate m true ++ [z, b1, b2, b3, b4]).toArray
/-- What may come next there, the region over. -/
def pairB (ops : Array Oper) (m : Nat) : Bool :=
  decide (Region.ready .any ops (LB m false false false false false) = [m]) &&
  decide (Region.ready .any ops (LB m true false false false false) = [m + 1, m + 3]) &&
  decide (Region.ready .any ops (LB m true true false false false) = [m + 2, m + 3]) &&
  decide (Region.ready .any ops (LB m true true true false false) = [m + 3]) &&
  decide (Region.ready .any ops (LB m true false false true false) = [m + 1, m + 4]) &&
  decide (Region.ready .any ops (LB m true true false true false) = [m + 2, m + 4]) &&
  decide (Region.ready .any ops (LB m true true true true false) = [m + 4]) &&
  decide (Region.ready .any ops (LB m true false false true true) = [m + 1]) &&
  decide (Region.ready .any ops (LB m true true false true true) = [m + 2]) &&
  decide (Region.ready .any ops (LB m true true true true true) = [])
theorem lb_set (m : Nat) (z b1 b2 b3 b4 : Bool) : (LB m z b1 b2 b3 b4).setIfInBounds m true = LB m true b1 b2 b3 b4 ∧ (LB m z b1 b2 b3 b4).setIfInBounds (m + 1) true = LB m z true b2 b3 b4 ∧ (LB m z b1 b2 b3 b4).setIfInBounds (m + 2) true = LB m z b1 true b3 b4 ∧ (LB m z b1 b2 b3 b4).setIfInBounds (m + 3) true = LB m z b1 b2 true b4 ∧ (LB m z b1 b2 b3 b4).setIfInBounds (m + 4) true = LB m z b1 b2 b3 true := by
  refine ⟨?_, ?_, ?_, ?_, ?_⟩ <;>
  · unfold LB
    rw [List.setIfInBounds_toArray, List.set_append_right _ _ (by simp)]
    simp
theorem lb_of {m : Nat} {listed : Array Bool} (hs : listed.size = m + 5) (h1 : ∀ j, j < m → listed.getD j false = true) (h2 : ∀ j, m ≤ j → j < m + 5 → listed.getD j true = false) : listed = LB m false false false false false := by
  apply Array.ext
  · simp [LB, hs]
  · intro i hi1 hi2
    by_cases h : i < m
    · have := h1 i h
      simp only [Array.getD_eq_getD_getElem?, Array.getElem?_eq_getElem hi1, Option.getD_some] at this
      rw [this]
      simp [LB, h]
    · have := h2 i (by omega) (by omega)
      simp only [Array.getD_eq_getD_getElem?, Array.getElem?_eq_getElem hi1, Option.getD_some] at this
      rw [this]
      have hq : i - m = 0 ∨ i - m = 1 ∨ i - m = 2 ∨ i - m = 3 ∨ i - m = 4 := by omega
      rcases hq with q | q | q | q | q <;> simp [LB, List.getElem_append, h, q]
theorem wpOp_of {i : Nat} {o : Oper} {a : Act} {w : World} {K : Act → World → Prop} (ho : ops[i]? = some o) (hg : o.guard = none) (h : o.wp P a w K Q) : wpOp P ops Q i K a w := by
  unfold wpOp
  simp only [ho]
  rw [if_pos (wanted_none hg _)]
  exact .inl h
/-- The tail: an append, then an element's place and its being laid (1, 2), and the row's cell and its being laid (3, 4), in whatever order. -/
theorem pair_tail {m : Nat} (hB : pairB ops m = true) {o0 o1 o2 o3 o4 : Oper} (e0 : ops[m]? = some o0) (e1 : ops[m + 1]? = some o1) (e2 : ops[m + 2]? = some o2) (e3 : ops[m + 3]? = some o3) (e4 : ops[m + 4]? = some o4)
    (g0 : o0.guard = none) (g1 : o1.guard = none) (g2 : o2.guard = none) (g3 : o3.guard = none) (g4 : o4.guard = none)
    {a : Act} {w : World} (I : Bool → Bool → Bool → Bool → Act → World → Prop)
    (h0 : o0.wp P a w (I false false false false) Q)
    (h1 : ∀ b3 b4 a' y, I false false b3 b4 a' y → o1.wp P a' y (I true false b3 b4) Q)
    (h2 : ∀ b3 b4 a' y, I true false b3 b4 a' y → o2.wp P a' y (I true true b3 b4) Q)
    (h3 : ∀ b1 b2 a' y, I b1 b2 false false a' y → o3.wp P a' y (I b1 b2 true false) Q)
    (h4 : ∀ b1 b2 a' y, I b1 b2 true false a' y → o4.wp P a' y (I b1 b2 true true) Q)
    (hend : ∀ a' y, I true true true true a' y → Q .normal a' y) (fuel : Nat) (hf : 5 ≤ fuel) : wpAny P .any ops Q fuel (LB m false false false false false) a w := by
  simp only [pairB, Bool.and_eq_true, decide_eq_true_eq] at hB
  obtain ⟨⟨⟨⟨⟨⟨⟨⟨⟨r0, r00⟩, r10⟩, r20⟩, r01⟩, r11⟩, r21⟩, r02⟩, r12⟩, r22⟩ := hB
  have t22 : ∀ n a' y, I true true true true a' y → wpAny P .any ops Q n (LB m true true true true true) a' y := fun n a' y h => by
    cases n with
    | zero => exact ⟨r22, hend _ _ h⟩
    | succ n => exact ⟨fun _ => hend _ _ h, by rw [r22]; simp⟩
  have one : ∀ {n : Nat} {listed l' : Array Bool} {k : Nat} {o : Oper} {a' : Act} {y : World}, Region.ready .any ops listed = [k] → listed.setIfInBounds k true = l' → ops[k]? = some o → o.guard = none → o.wp P a' y (wpAny P .any ops Q n l') Q → wpAny P .any ops Q (n + 1) listed a' y := fun {n listed l' k o a' y} hr hl ho hg h => by
    refine ⟨fun q => (by rw [hr] at q; cases q), fun i hi => ?_⟩
    rw [hr] at hi
    obtain rfl := List.mem_singleton.1 hi
    rw [hl]
    exact wpOp_of ho hg h
  have two : ∀ {n : Nat} {listed l' l'' : Array Bool} {k j : Nat} {o o' : Oper} {a' : Act} {y : World}, Region.ready .any ops listed = [k, j] → listed.setIfInBounds k true = l' → listed.setIfInBounds j true = l'' → ops[k]? = some o → ops[j]? = some o' → o.guard = none → o'.guard = none → o.wp P a' y (wpAny P .any ops Q n l') Q → o'.wp P a' y (wpAny P .any ops Q n l'') Q → wpAny P .any ops Q (n + 1) listed a' y := fun {n listed l' l'' k j o o' a' y} hr hl hl' ho ho' hg hg' h h' => by
    refine ⟨fun q => (by rw [hr] at q; cases q), fun i hi => ?_⟩
    rw [hr] at hi
    simp only [List.mem_cons, List.not_mem_nil, or_false] at hi
    rcases hi with rfl | rfl
    · rw [hl]; exact wpOp_of ho hg h
    · rw [hl']; exact wpOp_of ho' hg' h'
  have s0 := fun b1 b2 b3 b4 => (lb_set m false b1 b2 b3 b4).1
  have s1 := fun b1 b2 b3 b4 => (lb_set m true b1 b2 b3 b4).2.1
  have s2 := fun b1 b2 b3 b4 => (lb_set m true b1 b2 b3 b4).2.2.1
  have s3 := fun b1 b2 b3 b4 => (lb_set m true b1 b2 b3 b4).2.2.2.1
  have s4 := fun b1 b2 b3 b4 => (lb_set m true b1 b2 b3 b4).2.2.2.2
  have t21 : ∀ n a' y, I true true true false a' y → wpAny P .any ops Q (n + 1) (LB m true true true true false) a' y := fun n a' y h => one r21 (s4 _ _ _ _) e4 g4 (Oper.wp_mono (fun a'' z q => t22 n a'' z q) (h4 _ _ _ _ h))
  have t12 : ∀ n a' y, I true false true true a' y → wpAny P .any ops Q (n + 1) (LB m true true false true true) a' y := fun n a' y h => one r12 (s2 _ _ _ _) e2 g2 (Oper.wp_mono (fun a'' z q => t22 n a'' z q) (h2 _ _ _ _ h))
  have t20 : ∀ n a' y, I true true false false a' y → wpAny P .any ops Q (n + 2) (LB m true true true false false) a' y := fun n a' y h => one r20 (s3 _ _ _ _) e3 g3 (Oper.wp_mono (fun a'' z q => t21 n a'' z q) (h3 _ _ _ _ h))
  have t11 : ∀ n a' y, I true false true false a' y → wpAny P .any ops Q (n + 2) (LB m true true false true false) a' y := fun n a' y h => two r11 (s2 _ _ _ _) (s4 _ _ _ _) e2 e4 g2 g4 (Oper.wp_mono (fun a'' z q => t21 n a'' z q) (h2 _ _ _ _ h)) (Oper.wp_mono (fun a'' z q => t12 n a'' z q) (h4 _ _ _ _ h))
  have t02 : ∀ n a' y, I false false true true a' y → wpAny P .any ops Q (n + 2) (LB m true false false true true) a' y := fun n a' y h => one r02 (s1 _ _ _ _) e1 g1 (Oper.wp_mono (fun a'' z q => t12 n a'' z q) (h1 _ _ _ _ h))
  have t10 : ∀ n a' y, I true false false false a' y → wpAny P .any ops Q (n + 3) (LB m true true false false false) a' y := fun n a' y h => two r10 (s2 _ _ _ _) (s3 _ _ _ _) e2 e3 g2 g3 (Oper.wp_mono (fun a'' z q => t20 n a'' z q) (h2 _ _ _ _ h)) (Oper.wp_mono (fun a'' z q => t11 n a'' z q) (h3 _ _ _ _ h))
  have t01 : ∀ n a' y, I false false true false a' y → wpAny P .any ops Q (n + 3) (LB m true false false true false) a' y := fun n a' y h => two r01 (s1 _ _ _ _) (s4 _ _ _ _) e1 e4 g1 g4 (Oper.wp_mono (fun a'' z q => t11 n a'' z q) (h1 _ _ _ _ h)) (Oper.wp_mono (fun a'' z q => t02 n a'' z q) (h4 _ _ _ _ h))
  have t00 : ∀ n a' y, I false false false false a' y → wpAny P .any ops Q (n + 4) (LB m true false false false false) a' y := fun n a' y h => two r00 (s1 _ _ _ _) (s3 _ _ _ _) e1 e3 g1 g3 (Oper.wp_mono (fun a'' z q => t10 n a'' z q) (h1 _ _ _ _ h)) (Oper.wp_mono (fun a'' z q => t01 n a'' z q) (h3 _ _ _ _ h))
  obtain ⟨n, rfl⟩ : ∃ n, fuel = n + 5 := ⟨fuel - 5, by omega⟩
  exact one r0 (s0 _ _ _ _) e0 g0 (Oper.wp_mono (fun a'' z q => t00 n a'' z q) h0)
end Go.Proofs.YtogippkapadolaaDoor
