/- JsBackA, JsBackB, JsBackC, JsBackD, JsMakeP, JsTextP, JsMakeR. -/
import Derived.Lib.ParseIntBCases
import Derived.Lib.ItoaNum
import Derived.Test.YtogippkapadolaaDoorYJ16
import Derived.Test.YtogippkapadolaaDoorYJ14
/- Numbers are read back from their text. -/
namespace Go.Proofs.YtogippkapadolaaDoor

theorem dig_nat : ∀ d < 10, (UInt8.ofNat (48 + d)).toNat = 48 + d := by decide
theorem dig_dig : ∀ d < 10, digitB (UInt8.ofNat (48 + d)) = true := by decide
theorem parse_dec {M : Nat} (hM : M ≤ 18446744073709551615) (u : Nat) : ∀ r, u ≤ M → Lib.parseUintM M 0 (Lib.decDigits u ++ r) = Lib.parseUintM M u r := by
  induction u using Nat.strongRecOn with
  | _ u ih =>
    intro r hu
    by_cases h : u < 10
    · rw [Lib.decDigits, dif_pos h, List.singleton_append, Lib.parseUintM, dig_nat u h, if_pos (by omega), if_neg (by omega), if_neg (by omega)]
      congr 1
      omega
    · rw [Lib.decDigits, dif_neg h, List.append_assoc, ih (u / 10) (by omega) _ (by omega), List.singleton_append, Lib.parseUintM, dig_nat _ (Nat.mod_lt _ (by omega)), if_pos (by omega), if_neg (by omega), if_neg (by omega)]
      congr 1
      omega
theorem dec_digits (u : Nat) : ∀ c ∈ Lib.decDigits u, digitB c = true := by
  induction u using Nat.strongRecOn with
  | _ u ih =>
    intro c hc
    by_cases h : u < 10
    · rw [Lib.decDigits, dif_pos h, List.mem_singleton] at hc
      rw [hc]; exact dig_dig u h
    · rw [Lib.decDigits, dif_neg h, List.mem_append, List.mem_singleton] at hc
      rcases hc with hc | hc
      · exact ih _ (by omega) c hc
      · rw [hc]; exact dig_dig _ (Nat.mod_lt _ (by omega))
theorem dec_head (u : Nat) : ∃ c r, Lib.decDigits u = c :: r ∧ digitB c = true ∧ (c = 48 → u = 0 ∧ r = []) := by
  induction u using Nat.strongRecOn with
  | _ u ih =>
    by_cases h : u < 10
    · rw [Lib.decDigits, dif_pos h]
      refine ⟨_, _, rfl, dig_dig u h, fun e => ⟨?_, rfl⟩⟩
      have := congrArg UInt8.toNat e
      rw [dig_nat u h] at this
      have h8 : (48 : UInt8).toNat = 48 := rfl
      omega
    · rw [Lib.decDigits, dif_neg h]
      obtain ⟨c, r, hd, hc, h0⟩ := ih (u / 10) (by omega)
      rw [hd]
      exact ⟨c, r ++ _, rfl, hc, fun e => absurd (h0 e).1 (by omega)⟩
theorem dig_not {c : UInt8} (h : digitB c = true) : c.toNat ≠ 43 ∧ c.toNat ≠ 45 ∧ c ≠ 45 ∧ 48 ≤ c.toNat ∧ c.toNat ≤ 57 := by
  unfold digitB at h
  rw [Bool.and_eq_true, decide_eq_true_eq, decide_eq_true_eq, UInt8.le_iff_toNat_le, UInt8.le_iff_toNat_le] at h
  have h1 : (48 : UInt8).toNat = 48 := rfl
  have h2 : (57 : UInt8).toNat = 57 := rfl
  refine ⟨by omega, by omega, fun e => ?_, by omega, by omega⟩
  subst e
  have h3 : (45 : UInt8).toNat = 45 := rfl
  omega
theorem parse_uint {u : Nat} (h : u ≤ 18446744073709551615) : Lib.parseUintB 64 (Lib.decDigits u) = .ok u := by
  obtain ⟨c, r, hd, _, _⟩ := dec_head u
  unfold Lib.parseUintB
  rw [if_neg (by rw [hd]; simp)]
  have := parse_dec (M := 2 ^ 64 - 1) (by decide) u [] (by simpa using h)
  rw [List.append_nil] at this
  rw [this, Lib.parseUintM]
theorem parse_itoa {n : Int} (h1 : -9223372036854775808 ≤ n) (h2 : n ≤ 9223372036854775807) : Lib.parseIntB 64 (Lib.itoa n) = .ok n := by
  unfold Lib.itoa
  by_cases h : n < 0
  · rw [if_pos h, Lib.parseIntB_minus, parse_uint (by omega)]
    unfold Lib.signedC
    dsimp only
    rw [if_neg (by omega)]
    congr 1
    omega
  · rw [if_neg h]
    have hp := parse_uint (u := n.toNat) (by omega)
    obtain ⟨c, r, hd, hc, _⟩ := dec_head n.toNat
    rw [hd] at hp ⊢
    rw [Lib.parseIntB_plain _ _ _ (dig_not hc).1 (dig_not hc).2.1, hp]
    unfold Lib.signlessC
    dsimp only
    rw [if_neg (by omega)]
    congr 1
    omega
/-- What may stand behind a value. -/
def endN (B : List UInt8) : Prop := B = [] ∨ ∃ c r, B = c :: r ∧ (c = 44 ∨ c = 93 ∨ c = 125)
theorem end_dig {B : List UInt8} (h : endN B) : digitB (B.head?.getD 0) = false := by
  rcases h with rfl | ⟨c, r, rfl, rfl | rfl | rfl⟩ <;> rfl
theorem end_blank {B : List UInt8} (h : endN B) : blankB (B.head?.getD 0) = false := by
  rcases h with rfl | ⟨c, r, rfl, rfl | rfl | rfl⟩ <;> rfl
theorem digs_run {B : List UInt8} (hB : digitB (B.head?.getD 0) = false) : ∀ (D A : List UInt8) (n f : Nat), A.length = n → (∀ c ∈ D, digitB c = true) → D.length ≤ f → digsP (A ++ (D ++ B)) f n = n + D.length
  | [], A, n, 0, _, _, _ => rfl
  | [], A, n, f + 1, h, _, _ => by
    rw [digsP, List.nil_append, here_pre A B n h, hB]
    rfl
  | c :: D, A, n, 0, _, _, hf => by simp at hf
  | c :: D, A, n, f + 1, h, hD, hf => by
    have h0 : hereP (A ++ (c :: D ++ B)) n = c := by rw [here_pre A _ n h]; rfl
    rw [digsP, h0, hD c (by simp), if_pos rfl, show A ++ (c :: D ++ B) = (A ++ [c]) ++ (D ++ B) by simp]
    rw [digs_run hB D (A ++ [c]) (n + 1) f (by simp [h]) (fun x hx => hD x (by simp [hx])) (by simpa using hf)]
    simp; omega
theorem take_mid {A D B : List UInt8} {n : Nat} (h : A.length = n) : ((A ++ (D ++ B)).take (n + D.length)).drop n = D := by
  subst h
  rw [List.take_append, List.take_of_length_le (by omega), Nat.add_sub_cancel_left, List.drop_append, List.drop_of_length_le (by omega)]
  simp
theorem dec_end {A B : List UInt8} {u n : Nat} (h : A.length = n) (hB : digitB (B.head?.getD 0) = false) : (if hereP (A ++ (Lib.decDigits u ++ B)) n = 48 then n + 1 else digsP (A ++ (Lib.decDigits u ++ B)) ((A ++ (Lib.decDigits u ++ B)).length - n) n) = n + (Lib.decDigits u).length := by
  obtain ⟨c, r, hd, hc, h0⟩ := dec_head u
  have h1 : hereP (A ++ (Lib.decDigits u ++ B)) n = c := by rw [here_pre A _ n h, hd]; rfl
  rw [h1]
  by_cases e : c = 48
  · rw [if_pos e, hd, (h0 e).2]; rfl
  · rw [if_neg e, digs_run hB _ _ _ _ h (dec_digits u)]
    simp; omega
theorem num_back {A B : List UInt8} {v : Int} {n : Nat} (h : A.length = n) (hB : endN B) (h1 : -9223372036854775808 ≤ v) (h2 : v ≤ 9223372036854775807) : numP (A ++ (Lib.itoa v ++ B)) n = .ok v (n + (Lib.itoa v).length) := by
  have hp := parse_itoa h1 h2
  have hd := end_dig hB
  have ht := take_mid (D := Lib.itoa v) (B := B) h
  unfold numP
  by_cases hv : v < 0
  · have e : Lib.itoa v = 45 :: Lib.decDigits v.natAbs := by unfold Lib.itoa; rw [if_pos hv]
    obtain ⟨c, r, hdd, hc, _⟩ := dec_head v.natAbs
    have hm : minusP (A ++ (Lib.itoa v ++ B)) n = n + 1 := by
      unfold minusP
      rw [here_pre A _ n h, e]
      rfl
    have e2 : A ++ (Lib.itoa v ++ B) = (A ++ [45]) ++ (Lib.decDigits v.natAbs ++ B) := by rw [e]; simp
    have hx : hereP (A ++ (Lib.itoa v ++ B)) (n + 1) = c := by rw [e2, here_pre _ _ _ (by simp [h]), hdd]; rfl
    have hn : numEnd (A ++ (Lib.itoa v ++ B)) n = n + (Lib.itoa v).length := by
      unfold numEnd
      rw [hm, e2, dec_end (by simp [h]) hd, e]
      simp; omega
    rw [hm, hx, hc, if_pos rfl, hn, ht, hp]
  · have e : Lib.itoa v = Lib.decDigits v.toNat := by unfold Lib.itoa; rw [if_neg hv]
    obtain ⟨c, r, hdd, hc, _⟩ := dec_head v.toNat
    have hx : hereP (A ++ (Lib.itoa v ++ B)) n = c := by rw [here_pre _ _ _ h, e, hdd]; rfl
    have hm : minusP (A ++ (Lib.itoa v ++ B)) n = n := by
      unfold minusP
      rw [hx, if_neg (dig_not hc).2.2.1]
    have hn : numEnd (A ++ (Lib.itoa v ++ B)) n = n + (Lib.itoa v).length := by
      unfold numEnd
      rw [hm, e, dec_end h hd]
    rw [hm, hx, hc, if_pos rfl, hn, ht, hp]
end Go.Proofs.YtogippkapadolaaDoor

/- Texts and names are read back. -/
namespace Go.Proofs.YtogippkapadolaaDoor

theorem here_off {A X B : List UInt8} {n k : Nat} (h : A.length = n) (hk : k < X.length) : hereP (A ++ (X ++ B)) (n + k) = X[k] := by
  subst h
  unfold hereP
  rw [List.getElem?_append_right (by omega), Nat.add_sub_cancel_left, List.getElem?_append_left hk, List.getElem?_eq_getElem hk]
  rfl
def hexB (c : UInt8) : Bool := match hexD (digC (c.toNat / 16)), hexD (digC (c.toNat % 16)) with
  | some h, some l => ((h <<< 4) ||| l) == c
  | _, _ => false
theorem hex_all : ∀ i < 256, hexB (UInt8.ofNat i) = true := by decide +kernel
theorem hex_back (c : UInt8) : ∃ h l, hexD (digC (c.toNat / 16)) = some h ∧ hexD (digC (c.toNat % 16)) = some l ∧ ((h <<< 4) ||| l) = c := by
  have h := hex_all c.toNat c.toNat_lt
  rw [UInt8.ofNat_toNat] at h
  unfold hexB at h
  revert h
  cases h1 : hexD (digC (c.toNat / 16)) with
  | none => intro h; cases h
  | some a =>
    cases h2 : hexD (digC (c.toNat % 16)) with
    | none => intro h; cases h
    | some b => intro h; exact ⟨a, b, rfl, rfl, by simpa using h⟩
theorem quo_run {B : List UInt8} : ∀ (s A acc : List UInt8) (n f : Nat), A.length = n → s.length < f → quoL (A ++ (s.flatMap byteJ ++ 34 :: B)) f n acc = .ok (acc ++ s) (n + (s.flatMap byteJ).length + 1)
  | s, A, acc, n, 0, _, hf => by omega
  | [], A, acc, n, f + 1, h, _ => by
    have h0 : hereP (A ++ (([] : List UInt8).flatMap byteJ ++ 34 :: B)) n = 34 := by rw [here_pre A _ n h]; rfl
    rw [quoL, h0, if_pos rfl, List.append_nil]
    rfl
  | c :: s, A, acc, n, f + 1, h, hf => by
    have hs : s.length < f := by simpa using hf
    have eL : A ++ ((c :: s).flatMap byteJ ++ 34 :: B) = (A ++ byteJ c) ++ (s.flatMap byteJ ++ 34 :: B) := by simp
    have eM : A ++ ((c :: s).flatMap byteJ ++ 34 :: B) = A ++ (byteJ c ++ (s.flatMap byteJ ++ 34 :: B)) := by simp
    have ih := quo_run (B := B) s (A ++ byteJ c) (acc ++ [c]) (n + (byteJ c).length) f (by simp [h]) hs
    rw [← eL] at ih
    have ho : ∀ k, (hk : k < (byteJ c).length) → hereP (A ++ ((c :: s).flatMap byteJ ++ 34 :: B)) (n + k) = (byteJ c)[k] := fun k hk => by rw [eM]; exact here_off h hk
    have eR : acc ++ [c] ++ s = acc ++ c :: s := by simp
    have eN : n + (byteJ c).length + (s.flatMap byteJ).length + 1 = n + ((c :: s).flatMap byteJ).length + 1 := by simp; omega
    rw [eR, eN] at ih
    generalize A ++ ((c :: s).flatMap byteJ ++ 34 :: B) = L at *
    by_cases h1 : c = 34 ∨ c = 92
    · have e : byteJ c = [92, c] := by unfold byteJ; rw [if_pos h1]
      have h0 : hereP L n = 92 := by have := ho 0 (by rw [e]; simp); simpa [e] using this
      have hc : hereP L (n + 1) = c := by have := ho 1 (by rw [e]; simp); simpa [e] using this
      have hx : escP L (n + 1) = .ok c (n + 2) := by
        unfold escP
        rw [hc]
        rcases h1 with rfl | rfl <;> rfl
      rw [quoL, h0, if_neg (by decide), if_neg (by decide), if_pos rfl, hx, bind_val]
      rw [e] at ih
      exact ih
    · by_cases h2 : c.toNat < 32 ∨ 127 ≤ c.toNat
      · have e : byteJ c = [92, 117, 48, 48, digC (c.toNat / 16), digC (c.toNat % 16)] := by unfold byteJ; rw [if_neg h1, if_pos h2]
        have h0 : hereP L n = 92 := by have := ho 0 (by rw [e]; simp); simpa [e] using this
        have k1 : hereP L (n + 1) = 117 := by have := ho 1 (by rw [e]; simp); simpa [e] using this
        have k2 : hereP L (n + 1 + 1) = 48 := by have := ho 2 (by rw [e]; simp); simpa [e] using this
        have k3 : hereP L (n + 1 + 1 + 1) = 48 := by have := ho 3 (by rw [e]; simp); simpa [e] using this
        have k4 : hereP L (n + 1 + 1 + 1 + 1) = digC (c.toNat / 16) := by have := ho 4 (by rw [e]; simp); simpa [e] using this
        have k5 : hereP L (n + 1 + 1 + 1 + 1 + 1) = digC (c.toNat % 16) := by have := ho 5 (by rw [e]; simp); simpa [e] using this
        obtain ⟨a, b, g1, g2, g3⟩ := hex_back c
        have hx : escP L (n + 1) = .ok c (n + 6) := by
          unfold escP
          rw [k1]
          show (if (117 : UInt8) = 117 then _ else _) = _
          rw [if_pos rfl, passP, k1, if_pos rfl, passP, k2, if_pos rfl, passP, k3, if_pos rfl, passP, bind_val]
          unfold digP
          rw [k4, g1, bind_val, k5, g2, bind_val, g3]
        rw [quoL, h0, if_neg (by decide), if_neg (by decide), if_pos rfl, hx, bind_val]
        rw [e] at ih
        exact ih
      · have e : byteJ c = [c] := by unfold byteJ; rw [if_neg h1, if_neg h2]
        have h0 : hereP L n = c := by have := ho 0 (by rw [e]; simp); simpa [e] using this
        have h3 : ¬ c < 32 := by
          rw [UInt8.lt_iff_toNat_lt]
          have : (32 : UInt8).toNat = 32 := rfl
          omega
        rw [quoL, h0, if_neg (fun q => h1 (.inl q)), if_neg h3, if_neg (fun q => h1 (.inr q))]
        rw [e] at ih
        exact ih
theorem byteJ_pos (c : UInt8) : 1 ≤ (byteJ c).length := by unfold byteJ; split <;> (try split) <;> simp
theorem flat_long : ∀ s : List UInt8, s.length ≤ (s.flatMap byteJ).length
  | [] => Nat.le_refl _
  | c :: s => by
    have := flat_long s
    have := byteJ_pos c
    rw [List.flatMap_cons, List.length_append, List.length_cons]; omega
theorem text_parts (s : List UInt8) : textJ s = 34 :: (s.flatMap byteJ ++ [34]) := rfl
theorem quo_back {A B s : List UInt8} {n : Nat} (h : A.length = n) : quoP (A ++ (textJ s ++ B)) n = .ok s (n + (textJ s).length) := by
  have h0 : hereP (A ++ (textJ s ++ B)) n = 34 := by rw [here_pre A _ n h]; rfl
  have eL : A ++ (textJ s ++ B) = (A ++ [34]) ++ (s.flatMap byteJ ++ 34 :: B) := by rw [text_parts]; simp
  unfold quoP
  rw [passP, h0, if_pos rfl, passP, bind_val, eL, quo_run s (A ++ [34]) [] (n + 1) _ (by simp [h]) (by have := flat_long s; simp only [List.length_append, List.length_cons, List.length_nil]; omega), text_parts]
  simp; omega
theorem name_back {A B nm : List UInt8} {names : List (List UInt8)} {n : Nat} (h : A.length = n) (hn : nm ∉ names) : nameP (A ++ (textJ nm ++ 58 :: B)) names n = .ok nm (n + (textJ nm).length + 1) := by
  have h0 : hereP (A ++ (textJ nm ++ 58 :: B)) n = 34 := by rw [here_pre A _ n h]; rfl
  have h1 : hereP (A ++ (textJ nm ++ 58 :: B)) (n + (textJ nm).length) = 58 := by rw [← List.append_assoc, here_pre _ _ _ (by simp [h])]; rfl
  unfold nameP
  rw [next_id (by rw [h0]; rfl), quo_back h, bind_val, if_neg hn, next_id (by rw [h1]; rfl), passP, h1, if_pos rfl, passP, bind_val]
end Go.Proofs.YtogippkapadolaaDoor

/- Right values by kind; what stands in brackets is read back. -/
namespace Go.Proofs.YtogippkapadolaaDoor

theorem right_kinds {w : Nat} {j : J} (h : rightP w j = true) : j = jnull ∨ (∃ b, j = .mk 1 b 0 [] [] []) ∨ (∃ n, j = .mk 2 false n [] [] []) ∨ (∃ s, j = .mk 3 false 0 s [] []) ∨
    (∃ l, j = .mk 4 false 0 [] l [] ∧ w < 16 ∧ rightsP (w + 1) l = true) ∨ (∃ l names, j = .mk 5 false 0 [] l names ∧ w < 16 ∧ names.Nodup ∧ names.length = l.length ∧ rightsP (w + 1) l = true) := by
  cases j with
  | mk k b n s l names =>
    rw [rightP, Bool.and_eq_true, Bool.and_eq_true, Bool.not_eq_true', decide_eq_true_eq] at h
    obtain ⟨⟨h1, h2⟩, h3⟩ := h
    unfold badB at h1
    simp only [Bool.or_eq_false_iff, decide_eq_false_iff_not] at h1
    obtain ⟨⟨⟨⟨⟨⟨⟨⟨a1, a2⟩, a3⟩, a4⟩, a5⟩, a6⟩, a7⟩, a8⟩, a9⟩ := h1
    have hk : k = 0 ∨ k = 1 ∨ k = 2 ∨ k = 3 ∨ k = 4 ∨ k = 5 := by omega
    rcases hk with rfl | rfl | rfl | rfl | rfl | rfl <;> simp at a3 a4 a5 a6 a7 a8 a9
    · subst a3 a4 a5 a6 a7
      exact .inl rfl
    · subst a4 a5 a6 a7
      exact .inr (.inl ⟨b, rfl⟩)
    · subst a3 a5 a6 a7
      exact .inr (.inr (.inl ⟨n, rfl⟩))
    · subst a3 a4 a6 a7
      exact .inr (.inr (.inr (.inl ⟨s, rfl⟩)))
    · subst a3 a4 a5 a7
      exact .inr (.inr (.inr (.inr (.inl ⟨l, rfl, a9, h3⟩))))
    · subst a3 a4 a5
      exact .inr (.inr (.inr (.inr (.inr ⟨l, names, rfl, a9, h2, a8, h3⟩))))
theorem dig_more {c : UInt8} (h : digitB c = true) : blankB c = false ∧ c ≠ 93 ∧ c ≠ 125 ∧ c ≠ 44 ∧ c ≠ 110 ∧ c ≠ 116 ∧ c ≠ 102 ∧ c ≠ 34 ∧ c ≠ 91 ∧ c ≠ 123 := by
  have hn := dig_not h
  have h1 : c = UInt8.ofNat c.toNat := by rw [UInt8.ofNat_toNat]
  have : ∀ i, 48 ≤ i → i ≤ 57 → blankB (UInt8.ofNat i) = false ∧ UInt8.ofNat i ≠ 93 ∧ UInt8.ofNat i ≠ 125 ∧ UInt8.ofNat i ≠ 44 ∧ UInt8.ofNat i ≠ 110 ∧ UInt8.ofNat i ≠ 116 ∧ UInt8.ofNat i ≠ 102 ∧ UInt8.ofNat i ≠ 34 ∧ UInt8.ofNat i ≠ 91 ∧ UInt8.ofNat i ≠ 123 := by
    intro i h1 h2
    have : i = 48 ∨ i = 49 ∨ i = 50 ∨ i = 51 ∨ i = 52 ∨ i = 53 ∨ i = 54 ∨ i = 55 ∨ i = 56 ∨ i = 57 := by omega
    rcases this with rfl | rfl | rfl | rfl | rfl | rfl | rfl | rfl | rfl | rfl <;> decide
  rw [h1]
  exact this _ hn.2.2.2.1 hn.2.2.2.2
theorem itoa_head (n : Int) : ∃ c r, Lib.itoa n = c :: r ∧ (digitB c = true ∨ c = 45) := by
  unfold Lib.itoa
  split
  · exact ⟨45, _, rfl, .inr rfl⟩
  · obtain ⟨c, r, h, hc, _⟩ := dec_head n.toNat
    exact ⟨c, r, h, .inl hc⟩
theorem show_head (j : J) : ∃ c r, showJ j = c :: r ∧ blankB c = false ∧ c ≠ 93 ∧ c ≠ 125 ∧ c ≠ 44 := by
  cases j with
  | mk k b n s l names =>
    rw [showJ]
    by_cases h1 : k = 1
    · rw [if_pos h1]; cases b
      · exact ⟨102, _, rfl, by decide⟩
      · exact ⟨116, _, rfl, by decide⟩
    rw [if_neg h1]
    by_cases h2 : k = 2
    · rw [if_pos h2]
      obtain ⟨c, r, h, hc⟩ := itoa_head n
      refine ⟨c, r, h, ?_⟩
      rcases hc with hc | rfl
      · exact ⟨(dig_more hc).1, (dig_more hc).2.1, (dig_more hc).2.2.1, (dig_more hc).2.2.2.1⟩
      · decide
    rw [if_neg h2]
    by_cases h3 : k = 3
    · rw [if_pos h3]; exact ⟨34, _, rfl, by decide⟩
    rw [if_neg h3]
    by_cases h4 : k = 4
    · rw [if_pos h4]; exact ⟨91, _, rfl, by decide⟩
    rw [if_neg h4]
    by_cases h5 : k = 5
    · rw [if_pos h5]; exact ⟨123, _, rfl, by decide⟩
    rw [if_neg h5]; exact ⟨110, _, rfl, by decide⟩
theorem parts_len (o : Bool) : ∀ (r : List J) (i : Nat) (names : List (List UInt8)), r.length ≤ (partsJ o i r names).length
  | [], _, _ => Nat.le_refl _
  | x :: r, i, names => by
    have := parts_len o r (i + 1) names
    obtain ⟨c, t, h, _⟩ := show_head x
    rw [partsJ, h]
    simp only [List.length_append, List.length_cons]
    omega
theorem parts_end {o : Bool} {i : Nat} {r : List J} {names : List (List UInt8)} {c : UInt8} {B : List UInt8} (hc : c = 93 ∨ c = 125) : endN (partsJ o (i + 1) r names ++ c :: B) := by
  cases r with
  | nil => exact .inr ⟨c, B, rfl, .inr hc⟩
  | cons x r => exact .inr ⟨44, _, rfl, .inl rfl⟩
/-- Whatever stands in L as the text of x is read as x. -/
def Reads (L : List UInt8) (f : Nat → Res J) (x : J) : Prop := ∀ (A B : List UInt8) (n : Nat), A ++ (showJ x ++ B) = L → A.length = n → endN B → f n = .ok x (n + (showJ x).length)
theorem list_back {L B : List UInt8} {f : Nat → Res J} : ∀ (r : List J) (A : List UInt8) (i q fuel : Nat) (acc : List J), A ++ (partsJ false (i + 1) r [] ++ 93 :: B) = L → A.length = q → r.length < fuel → (∀ x ∈ r, Reads L f x) →
    eachL L (stepL f) fuel acc q = .ok (acc ++ r) (q + (partsJ false (i + 1) r []).length)
  | r, A, i, q, 0, acc, _, _, hf, _ => by omega
  | [], A, i, q, fuel + 1, acc, hL, hA, _, _ => by
    have h0 : hereP L q = 93 := by rw [← hL, here_pre A _ q hA]; rfl
    rw [eachL, next_id (by rw [h0]; rfl), h0, if_neg (by decide), List.append_nil]
    rfl
  | x :: r, A, i, q, fuel + 1, acc, hL, hA, hf, hx => by
    have h0 : hereP L q = 44 := by rw [← hL, here_pre A _ q hA]; rfl
    have e1 : (A ++ [44]) ++ (showJ x ++ (partsJ false (i + 1 + 1) r [] ++ 93 :: B)) = L := by rw [← hL, partsJ]; simp
    have e2 : (A ++ [44] ++ showJ x) ++ (partsJ false (i + 1 + 1) r [] ++ 93 :: B) = L := by rw [← hL, partsJ]; simp
    have v := hx x (by simp) (A ++ [44]) _ (q + 1) e1 (by simp [hA]) (parts_end (.inl rfl))
    have ih := list_back r (A ++ [44] ++ showJ x) (i + 1) (q + 1 + (showJ x).length) fuel (acc ++ [x]) e2 (by simp [hA]; omega) (by simpa using hf) (fun y hy => hx y (by simp [hy]))
    rw [eachL, next_id (by rw [h0]; rfl), h0, if_pos rfl]
    unfold stepL
    rw [v, bind_val, bind_val]
    show eachL L (stepL f) fuel (acc ++ [x]) _ = _
    rw [ih, partsJ]
    simp only [List.append_assoc, List.singleton_append, List.length_append]
    rw [if_pos (by omega), if_neg (by simp)]
    congr 1
    simp only [List.length_cons, List.length_nil]
    omega
theorem obj_back {L B : List UInt8} {f : Nat → Res J} {names : List (List UInt8)} (hN : names.Nodup) : ∀ (r : List J) (A : List UInt8) (i q fuel : Nat) (acc : List J), A ++ (partsJ true (i + 1) r names ++ 125 :: B) = L → A.length = q → r.length < fuel → i + 1 + r.length = names.length → (∀ x ∈ r, Reads L f x) →
    eachL L (stepO L f) fuel (names.take (i + 1), acc) q = .ok (names, acc ++ r) (q + (partsJ true (i + 1) r names).length)
  | r, A, i, q, 0, acc, _, _, hf, _, _ => by omega
  | [], A, i, q, fuel + 1, acc, hL, hA, _, hi, _ => by
    have h0 : hereP L q = 125 := by rw [← hL, here_pre A _ q hA]; rfl
    rw [eachL, next_id (by rw [h0]; rfl), h0, if_neg (by decide), List.append_nil, List.take_of_length_le (by simp at hi; omega)]
    rfl
  | x :: r, A, i, q, fuel + 1, acc, hL, hA, hf, hi, hx => by
    have h0 : hereP L q = 44 := by rw [← hL, here_pre A _ q hA]; rfl
    have hlt : i + 1 < names.length := by simp at hi; omega
    have hg : names.getD (i + 1) [] = names[i + 1] := by simp [List.getD, List.getElem?_eq_getElem hlt]
    have hp : partsJ true (i + 1) (x :: r) names = [44] ++ (textJ names[i + 1] ++ (58 :: (showJ x ++ partsJ true (i + 1 + 1) r names))) := by
      rw [partsJ, hg]; simp
    rw [hp] at hL ⊢
    have e0 : (A ++ [44]) ++ (textJ names[i + 1] ++ 58 :: (showJ x ++ (partsJ true (i + 1 + 1) r names ++ 125 :: B))) = L := by rw [← hL]; simp
    have e1 : (A ++ [44] ++ textJ names[i + 1] ++ [58]) ++ (showJ x ++ (partsJ true (i + 1 + 1) r names ++ 125 :: B)) = L := by rw [← hL]; simp
    have e2 : (A ++ [44] ++ textJ names[i + 1] ++ [58] ++ showJ x) ++ (partsJ true (i + 1 + 1) r names ++ 125 :: B) = L := by rw [← hL]; simp
    have hni : names[i + 1] ∉ names.take (i + 1) := by
      intro hm
      obtain ⟨k, hk, hk2⟩ := List.mem_iff_getElem.1 hm
      rw [List.getElem_take] at hk2
      have hk3 : k < i + 1 := by rw [List.length_take] at hk; omega
      exact absurd ((List.getElem_inj hN).1 hk2) (by omega)
    have nb := name_back (A := A ++ [44]) (B := showJ x ++ (partsJ true (i + 1 + 1) r names ++ 125 :: B)) (n := q + 1) (by simp [hA]) hni
    rw [e0] at nb
    have v := hx x (by simp) (A ++ [44] ++ textJ names[i + 1] ++ [58]) _ (q + 1 + (textJ names[i + 1]).length + 1) e1 (by simp [hA]; omega) (parts_end (.inr rfl))
    have ih := obj_back hN r (A ++ [44] ++ textJ names[i + 1] ++ [58] ++ showJ x) (i + 1) (q + 1 + (textJ names[i + 1]).length + 1 + (showJ x).length) fuel (acc ++ [x]) e2 (by simp [hA]; omega) (by simpa using hf) (by simp at hi; omega) (fun y hy => hx y (by simp [hy]))
    have ht : names.take (i + 1) ++ [names[i + 1]] = names.take (i + 1 + 1) := by rw [List.take_succ_eq_append_getElem hlt]
    rw [eachL, next_id (by rw [h0]; rfl), h0, if_pos rfl]
    unfold stepO
    dsimp only
    rw [nb, bind_val, v, bind_val, bind_val, ht]
    show eachL L (stepO L f) fuel (names.take (i + 1 + 1), acc ++ [x]) _ = _
    rw [ih]
    simp only [List.append_assoc, List.singleton_append, List.length_append, List.length_cons]
    congr 1
    omega
/-- Whole numbers of 64 bits. -/
inductive IntsJ : J → Prop where
  | mk {k : Int} {b : Bool} {n : Int} {s : List UInt8} {l : List J} {names : List (List UInt8)} (hn : -9223372036854775808 ≤ n ∧ n ≤ 9223372036854775807) (hx : ∀ x ∈ l, IntsJ x) : IntsJ (.mk k b n s l names)
end Go.Proofs.YtogippkapadolaaDoor

/- A right value is read back from its text. -/
namespace Go.Proofs.YtogippkapadolaaDoor

theorem pass_run : ∀ (X A B : List UInt8) (n : Nat), A.length = n → passP (A ++ (X ++ B)) X n = .ok () (n + X.length)
  | [], _, _, _, _ => rfl
  | c :: X, A, B, n, h => by
    have h0 : hereP (A ++ (c :: X ++ B)) n = c := by rw [here_pre A _ n h]; rfl
    rw [passP, h0, if_pos rfl, show A ++ (c :: X ++ B) = (A ++ [c]) ++ (X ++ B) by simp, pass_run X (A ++ [c]) B (n + 1) (by simp [h])]
    simp only [List.length_cons]
    congr 1
    omega
theorem each_none {σ : Type} {L : List UInt8} {close : UInt8} {step : σ → Nat → Res σ} {x : σ} {p : Nat} (h1 : hereP L (p + 1) = close) (hb : blankB close = false) : eachP L close step x p = .ok x (p + 2) := by
  unfold eachP
  rw [next_id (by rw [h1]; exact hb), h1, if_pos rfl, bind_val, passP, h1, if_pos rfl, passP, bind_val]
theorem each_some {σ : Type} {L : List UInt8} {close : UInt8} {step : σ → Nat → Res σ} {x y z : σ} {p q q' : Nat} {c : UInt8} (h1 : hereP L (p + 1) = c) (hb : blankB c = false) (hc : c ≠ close) (hs : step x (p + 1) = .ok y q) (hE : eachL L step (L.length + 1 - q) y q = .ok z q') (h3 : hereP L q' = close) :
    eachP L close step x p = .ok z (q' + 1) := by
  unfold eachP
  rw [next_id (by rw [h1]; exact hb), h1, if_neg hc, hs, bind_val, hE, bind_val, passP, h3, if_pos rfl, passP, bind_val]
theorem rights_mem {w : Nat} : ∀ {l : List J}, rightsP w l = true → ∀ x ∈ l, rightP w x = true
  | [], _, x, hx => by simp at hx
  | y :: r, h, x, hx => by
    rw [rightsP, Bool.and_eq_true] at h
    rcases List.mem_cons.1 hx with rfl | hx
    · exact h.1
    · exact rights_mem h.2 x hx
theorem list_val {L A B : List UInt8} {n : Nat} {l : List J} {f : Nat → Res J} (hL : A ++ (showJ (.mk 4 false 0 [] l []) ++ B) = L) (hA : A.length = n) (hx : ∀ x ∈ l, Reads L f x) :
    val2 L (some f) n = .ok (.mk 4 false 0 [] l []) (n + (showJ (.mk 4 false 0 [] l [])).length) := by
  have hs : showJ (.mk 4 false 0 [] l []) = 91 :: partsJ false 0 l [] ++ [93] := by rw [showJ]; rfl
  have h0 : hereP L n = 91 := by rw [← hL, here_pre A _ n hA, hs]; rfl
  unfold val2
  rw [h0]
  show ((eachP L 93 (stepL f) [] n).bind _) = _
  cases l with
  | nil =>
    have h1 : hereP L (n + 1) = 93 := by rw [← hL, hs, show A ++ (91 :: partsJ false 0 [] [] ++ [93] ++ B) = (A ++ [91]) ++ ([93] ++ B) by simp [partsJ], here_pre _ _ _ (by simp [hA])]; rfl
    rw [each_none h1 rfl, hs]
    rfl
  | cons x r =>
    have hp : partsJ false 0 (x :: r) [] = showJ x ++ partsJ false 1 r [] := by rw [partsJ]; simp
    obtain ⟨c, t, hc, hb, h93, _, _⟩ := show_head x
    have e1 : (A ++ [91]) ++ (showJ x ++ (partsJ false 1 r [] ++ 93 :: B)) = L := by rw [← hL, hs, hp]; simp
    have e2 : (A ++ [91] ++ showJ x) ++ (partsJ false 1 r [] ++ 93 :: B) = L := by rw [← hL, hs, hp]; simp
    have e3 : (A ++ [91] ++ showJ x ++ partsJ false 1 r []) ++ 93 :: B = L := by rw [← hL, hs, hp]; simp
    have h1 : hereP L (n + 1) = c := by rw [← e1, here_pre _ _ _ (by simp [hA]), hc]; rfl
    have v := hx x (by simp) _ _ (n + 1) e1 (by simp [hA]) (parts_end (.inl rfl))
    have hq : hereP L (n + 1 + (showJ x).length + (partsJ false 1 r []).length) = 93 := by rw [← e3, here_pre _ _ _ (by simp [hA]; omega)]; rfl
    have hf : r.length < L.length + 1 - (n + 1 + (showJ x).length) := by
      have := parts_len false r 1 []
      have := congrArg List.length e2
      simp only [List.length_append, List.length_cons, List.length_nil] at this
      omega
    have lb := list_back r _ 0 (n + 1 + (showJ x).length) _ [x] e2 (by simp [hA]; omega) hf (fun y hy => hx y (by simp [hy]))
    rw [Nat.zero_add] at lb
    rw [each_some h1 hb h93 (y := [x]) (by unfold stepL; rw [v]; rfl) lb hq, bind_val, hs, hp]
    simp only [List.singleton_append, List.length_append, List.length_cons, List.length_nil]
    congr 1
    omega
theorem obj_val {L A B : List UInt8} {n : Nat} {l : List J} {names : List (List UInt8)} {f : Nat → Res J} (hN : names.Nodup) (hn : names.length = l.length) (hL : A ++ (showJ (.mk 5 false 0 [] l names) ++ B) = L) (hA : A.length = n) (hx : ∀ x ∈ l, Reads L f x) :
    val2 L (some f) n = .ok (.mk 5 false 0 [] l names) (n + (showJ (.mk 5 false 0 [] l names)).length) := by
  have hs : showJ (.mk 5 false 0 [] l names) = 123 :: partsJ true 0 l names ++ [125] := by rw [showJ]; rfl
  have h0 : hereP L n = 123 := by rw [← hL, here_pre A _ n hA, hs]; rfl
  unfold val2
  rw [h0]
  show ((eachP L 125 (stepO L f) ([], []) n).bind _) = _
  cases l with
  | nil =>
    have hnn : names = [] := List.length_eq_zero_iff.1 hn
    subst hnn
    have h1 : hereP L (n + 1) = 125 := by rw [← hL, hs, show A ++ (123 :: partsJ true 0 [] [] ++ [125] ++ B) = (A ++ [123]) ++ ([125] ++ B) by simp [partsJ], here_pre _ _ _ (by simp [hA])]; rfl
    rw [each_none h1 rfl, hs]
    rfl
  | cons x r =>
    cases names with
    | nil => simp at hn
    | cons m names =>
    have hp : partsJ true 0 (x :: r) (m :: names) = textJ m ++ (58 :: (showJ x ++ partsJ true 1 r (m :: names))) := by rw [partsJ]; simp
    have e0 : (A ++ [123]) ++ (textJ m ++ 58 :: (showJ x ++ (partsJ true 1 r (m :: names) ++ 125 :: B))) = L := by rw [← hL, hs, hp]; simp
    have e1 : (A ++ [123] ++ textJ m ++ [58]) ++ (showJ x ++ (partsJ true 1 r (m :: names) ++ 125 :: B)) = L := by rw [← hL, hs, hp]; simp
    have e2 : (A ++ [123] ++ textJ m ++ [58] ++ showJ x) ++ (partsJ true 1 r (m :: names) ++ 125 :: B) = L := by rw [← hL, hs, hp]; simp
    have e3 : (A ++ [123] ++ textJ m ++ [58] ++ showJ x ++ partsJ true 1 r (m :: names)) ++ 125 :: B = L := by rw [← hL, hs, hp]; simp
    have h1 : hereP L (n + 1) = 34 := by rw [← e0, here_pre _ _ _ (by simp [hA])]; rfl
    have nb := name_back (A := A ++ [123]) (B := showJ x ++ (partsJ true 1 r (m :: names) ++ 125 :: B)) (nm := m) (names := []) (n := n + 1) (by simp [hA]) (by simp)
    rw [e0] at nb
    have v := hx x (by simp) _ _ (n + 1 + (textJ m).length + 1) e1 (by simp [hA]; omega) (parts_end (.inr rfl))
    have hq : hereP L (n + 1 + (textJ m).length + 1 + (showJ x).length + (partsJ true 1 r (m :: names)).length) = 125 := by rw [← e3, here_pre _ _ _ (by simp [hA]; omega)]; rfl
    have hf : r.length < L.length + 1 - (n + 1 + (textJ m).length + 1 + (showJ x).length) := by
      have := parts_len true r 1 (m :: names)
      have := congrArg List.length e2
      simp only [List.length_append, List.length_cons, List.length_nil] at this
      omega
    have lb := obj_back hN r _ 0 (n + 1 + (textJ m).length + 1 + (showJ x).length) _ [x] e2 (by simp [hA]; omega) hf (by simp at hn ⊢; omega) (fun y hy => hx y (by simp [hy]))
    rw [Nat.zero_add] at lb
    rw [each_some h1 rfl (by decide) (y := ([m], [x])) (by unfold stepO; dsimp only; rw [nb, bind_val, v]; rfl) lb hq, bind_val, hs, hp]
    simp only [List.singleton_append, List.length_append, List.length_cons, List.length_nil]
    congr 1
    omega
theorem leaf_val {L A B : List UInt8} {n : Nat} {j : J} {inner : Option (Nat → Res J)} (hj : j = jnull ∨ (∃ b, j = .mk 1 b 0 [] [] []) ∨ (∃ v, j = .mk 2 false v [] [] [] ∧ -9223372036854775808 ≤ v ∧ v ≤ 9223372036854775807) ∨ (∃ s, j = .mk 3 false 0 s [] [])) (hL : A ++ (showJ j ++ B) = L) (hA : A.length = n) (hB : endN B) :
    val2 L inner n = .ok j (n + (showJ j).length) := by
  rcases hj with rfl | ⟨b, rfl⟩ | ⟨v, rfl, h1, h2⟩ | ⟨s, rfl⟩
  · have hp := pass_run [110, 117, 108, 108] A B n hA
    have h0 : hereP L n = 110 := by rw [← hL, here_pre A _ n hA]; rfl
    have hL' : A ++ ([110, 117, 108, 108] ++ B) = L := hL
    rw [hL'] at hp
    unfold val2
    rw [h0, if_pos rfl, hp]
    rfl
  · cases b
    · have hp := pass_run [102, 97, 108, 115, 101] A B n hA
      have h0 : hereP L n = 102 := by rw [← hL, here_pre A _ n hA]; rfl
      have hL' : A ++ ([102, 97, 108, 115, 101] ++ B) = L := hL
      rw [hL'] at hp
      unfold val2
      rw [h0, if_neg (by decide), if_neg (by decide), if_pos rfl, hp]
      rfl
    · have hp := pass_run [116, 114, 117, 101] A B n hA
      have h0 : hereP L n = 116 := by rw [← hL, here_pre A _ n hA]; rfl
      have hL' : A ++ ([116, 114, 117, 101] ++ B) = L := hL
      rw [hL'] at hp
      unfold val2
      rw [h0, if_neg (by decide), if_pos rfl, hp]
      rfl
  · have hs : showJ (.mk 2 false v [] [] []) = Lib.itoa v := by rw [showJ]; rfl
    have hp := num_back (A := A) (B := B) hA hB h1 h2
    rw [hs] at hL ⊢
    rw [hL] at hp
    obtain ⟨c, r, hc, hd⟩ := itoa_head v
    have h0 : hereP L n = c := by rw [← hL, here_pre A _ n hA, hc]; rfl
    have hne : c ≠ 110 ∧ c ≠ 116 ∧ c ≠ 102 ∧ c ≠ 34 ∧ c ≠ 91 ∧ c ≠ 123 := by
      rcases hd with hd | rfl
      · exact (dig_more hd).2.2.2.2
      · decide
    unfold val2
    rw [h0, if_neg hne.1, if_neg hne.2.1, if_neg hne.2.2.1, if_neg hne.2.2.2.1, if_neg hne.2.2.2.2.1, if_neg hne.2.2.2.2.2, hp]
    rfl
  · have hs : showJ (.mk 3 false 0 s [] []) = textJ s := by rw [showJ]; rfl
    rw [hs] at hL ⊢
    have hp := quo_back (A := A) (B := B) (s := s) hA
    rw [hL] at hp
    have h0 : hereP L n = 34 := by rw [← hL, here_pre A _ n hA]; rfl
    unfold val2
    rw [h0, if_neg (by decide), if_neg (by decide), if_neg (by decide), if_pos rfl, hp]
    rfl
theorem val_back : ∀ (d : Nat), d ≤ 16 → ∀ {j : J}, rightP (16 - d) j = true → IntsJ j → ∀ L, Reads L (valP L d) j := by
  intro d
  induction d with
  | zero =>
    intro _ j hr hi L A B n hL hA hB
    obtain ⟨c, t, hc, hb, _⟩ := show_head j
    have h0 : hereP L n = c := by rw [← hL, here_pre A _ n hA, hc]; rfl
    rw [valP, next_id (by rw [h0]; exact hb)]
    rcases right_kinds hr with rfl | ⟨b, rfl⟩ | ⟨v, rfl⟩ | ⟨s, rfl⟩ | ⟨l, rfl, h16, _⟩ | ⟨l, names, rfl, h16, _⟩
    · exact leaf_val (.inl rfl) hL hA hB
    · exact leaf_val (.inr (.inl ⟨b, rfl⟩)) hL hA hB
    · cases hi with
      | mk hn _ => exact leaf_val (.inr (.inr (.inl ⟨v, rfl, hn⟩))) hL hA hB
    · exact leaf_val (.inr (.inr (.inr ⟨s, rfl⟩))) hL hA hB
    · omega
    · omega
  | succ d ih =>
    intro hd j hr hi L A B n hL hA hB
    obtain ⟨c, t, hc, hb, _⟩ := show_head j
    have h0 : hereP L n = c := by rw [← hL, here_pre A _ n hA, hc]; rfl
    rw [valP, next_id (by rw [h0]; exact hb)]
    have e : 16 - (d + 1) + 1 = 16 - d := by omega
    rcases right_kinds hr with rfl | ⟨b, rfl⟩ | ⟨v, rfl⟩ | ⟨s, rfl⟩ | ⟨l, rfl, h16, hl⟩ | ⟨l, names, rfl, h16, hN, hn, hl⟩
    · exact leaf_val (.inl rfl) hL hA hB
    · exact leaf_val (.inr (.inl ⟨b, rfl⟩)) hL hA hB
    · cases hi with
      | mk hn _ => exact leaf_val (.inr (.inr (.inl ⟨v, rfl, hn⟩))) hL hA hB
    · exact leaf_val (.inr (.inr (.inr ⟨s, rfl⟩))) hL hA hB
    · rw [e] at hl
      cases hi with
      | mk _ hx => exact list_val hL hA fun x hm => ih (by omega) (rights_mem hl x hm) (hx x hm) L
    · rw [e] at hl
      cases hi with
      | mk _ hx => exact obj_val hN hn hL hA fun x hm => ih (by omega) (rights_mem hl x hm) (hx x hm) L
/-- The whole text of a right value. -/
theorem whole_back {j : J} (h : rightP 0 j = true) (hi : IntsJ j) : wholeP (showJ j) = .ok j (showJ j).length := by
  have v := val_back 16 (Nat.le_refl _) (j := j) h hi (showJ j) [] [] 0 (by simp) rfl (.inl rfl)
  rw [Nat.zero_add] at v
  unfold wholeP
  rw [v, bind_val]
  have : hereP (showJ j) (showJ j).length = 0 := by unfold hereP; simp
  rw [next_id (by rw [this]; rfl), if_pos rfl]
/-- Plain bytes. -/
def Plain (l : List UInt8) : Prop := ∀ c ∈ l, 32 ≤ c.toNat ∧ c.toNat ≤ 126
theorem Plain.append {a b : List UInt8} (h : Plain a) (k : Plain b) : Plain (a ++ b) := fun c hc => by
  rcases List.mem_append.1 hc with q | q
  · exact h c q
  · exact k c q
theorem plain_dig : ∀ n < 16, 32 ≤ (digC n).toNat ∧ (digC n).toNat ≤ 126 := by decide
theorem plain_byte (c : UInt8) : Plain (byteJ c) := by
  unfold byteJ
  split
  · rename_i h
    intro d hd
    rcases List.mem_cons.1 hd with rfl | hd
    · decide
    · rw [List.mem_singleton] at hd
      subst hd
      rcases h with rfl | rfl <;> decide
  · split
    · intro d hd
      have h1 := plain_dig (c.toNat / 16) (by have := c.toNat_lt; omega)
      have h2 := plain_dig (c.toNat % 16) (by omega)
      simp only [List.mem_cons, List.not_mem_nil, or_false] at hd
      rcases hd with rfl | rfl | rfl | rfl | rfl | rfl
      · decide
      · decide
      · decide
      · decide
      · exact h1
      · exact h2
    · rename_i h1 h2
      intro d hd
      rw [List.mem_singleton] at hd
      subst hd
      omega
theorem plain_text (s : List UInt8) : Plain (textJ s) := by
  intro c hc
  rw [text_parts] at hc
  rcases List.mem_cons.1 hc with rfl | hc
  · decide
  · rcases List.mem_append.1 hc with hc | hc
    · obtain ⟨x, _, hx⟩ := List.mem_flatMap.1 hc
      exact plain_byte x c hx
    · rw [List.mem_singleton] at hc
      subst hc
      decide
theorem plain_itoa (n : Int) : Plain (Lib.itoa n) := by
  have hd : ∀ u, Plain (Lib.decDigits u) := fun u c hc => by
    have := dig_not (dec_digits u c hc)
    omega
  unfold Lib.itoa
  split
  · intro c hc
    rcases List.mem_cons.1 hc with rfl | hc
    · decide
    · exact hd _ c hc
  · exact hd _
end Go.Proofs.YtogippkapadolaaDoor

/- Object of the program: what it makes, and its rows. -/
namespace Go.Proofs.YtogippkapadolaaDoor
open Go.RowKit

def J.str : J → List UInt8 | .mk _ _ _ s _ _ => s
/-- What Object makes: names and elements. -/
def makeF : List J → List (List UInt8) → List J → List (List UInt8) × List J
  | x :: y :: r, names, es => if x.kind = 3 then (if x.str ∈ names then makeF r names es else makeF r (names ++ [x.str]) (es ++ [y])) else makeF r names es
  | [_], names, es => (names, es)
  | [], names, es => (names, es)
def makeJ (ls : List J) : J := .mk 5 false 0 [] (makeF ls [] []).2 (makeF ls [] []).1
theorem make_next {ls : List J} {i : Nat} (h : i + 1 < ls.length) (names : List (List UInt8)) (es : List J) :
    makeF (ls.drop i) names es = if ls[i].kind = 3 then (if ls[i].str ∈ names then makeF (ls.drop (i + 2)) names es else makeF (ls.drop (i + 2)) (names ++ [ls[i].str]) (es ++ [ls[i + 1]])) else makeF (ls.drop (i + 2)) names es := by
  rw [List.drop_eq_getElem_cons (show i < ls.length by omega), List.drop_eq_getElem_cons (show i + 1 < ls.length by omega), makeF]
theorem make_end {ls : List J} {i : Nat} (h : ls.length ≤ i + 1) (names : List (List UInt8)) (es : List J) : makeF (ls.drop i) names es = (names, es) := by
  rcases hd : ls.drop i with _ | ⟨x, _ | ⟨y, r⟩⟩
  · rfl
  · rfl
  · have := congrArg List.length hd
    simp at this; omega
/-- A name more. -/
theorem vin_name {M bv g cap : Nat} {kd : Int} {l : List J} {names : List (List UInt8)} {x w1 w2 : World} {u nv : Value} {es : List (List Value)} {nm : List UInt8}
    (hV : VIn M bv kd l names x u nv es) (hgr : x.grownBy w1 nv.ownBlock) (hT : Turned bv w1 w2 ((boxV kd u nv).set 5 (.slice (some ⟨g, 0, none⟩) (names.length + 1) cap)) 27) (hbv : bv < M)
    (hown : w1.ownsRow M 9 1 (.slice (some ⟨g, 0, none⟩) (names.length + 1) cap) (names.length + 1) (names.map strV1 ++ [strV1 nm])) (hat : nv.ownBlock = some g ∨ g = x.heap.size) :
    VIn M bv kd l (names ++ [nm]) w2 u (.slice (some ⟨g, 0, none⟩) (names.length + 1) cap) es ∧ KeepL [bv] M x w2 := by
  have hnb : ∀ k, nv.ownBlock = some k → M ≤ k := fun k hk => own_base hV.nown k hk
  have hsame : ∀ k, k < x.heap.size → k ≠ bv → nv.ownBlock ≠ some k → w2.heap[k]? = x.heap[k]? := fun k h1 h2 h3 => (hT.others k h2).trans (hgr.block k h1 (fun e => h3 e.symm))
  have hlow : ∀ k, k < x.heap.size → k < M → k ≠ bv → w2.heap[k]? = x.heap[k]? := fun k h1 h2 h3 => hsame k h1 h3 fun e => by have := hnb k e; omega
  have hug : ∀ k, u.ownBlock = some k → k ≠ g := fun k hk e => by
    rcases hat with h | h
    · exact hV.apart k hk (e ▸ h)
    · have := own_lt hV.own hk; omega
  have hub : ∀ k, u.ownBlock = some k → M ≤ k := fun k hk => own_base hV.own k hk
  refine ⟨⟨hT.holds, ?_, ?_, ?_, hV.len, hV.six, ?_⟩, ⟨hT.os.trans hgr.os, hT.tape.trans hgr.tape, hT.output.trans hgr.output, by have := hgr.size; have := hT.size; omega, fun k h1 h2 h3 => ?_⟩⟩
  · exact owns_same hV.own fun k hk h1 h2 => hsame k h1 (by omega) (hV.apart k hk)
  · have := owns_same hown (w' := w2) fun k hk h1 h2 => hT.others k (by omega)
    simpa using this
  · intro k hk e
    cases e
    exact hug _ hk rfl
  · intro i j c h1 h2
    exact (hV.each i j c h1 h2).mono fun k ⟨h3, h4, h5⟩ h6 => by
      have hkg : k ≠ g := fun e => by
        rcases hat with h | h
        · exact h5 (e ▸ h)
        · omega
      exact ⟨⟨h3, h4, fun e => hkg (by cases e; rfl)⟩, hsame k h6 (by omega) h5⟩
  · simp only [List.mem_cons, List.not_mem_nil, or_false] at h3
    exact hlow k h1 h2 h3
/-- An element more. -/
theorem vin_elem {M bv g cap : Nat} {kd : Int} {l : List J} {names : List (List UInt8)} {x w1 w2 : World} {u nv : Value} {es : List (List Value)} {j : J} {d : List Value}
    (hV : VIn M bv kd l names x u nv es) (hgr : x.grownBy w1 u.ownBlock) (hT : Turned bv w1 w2 ((boxV kd u nv).set 4 (.slice (some ⟨g, 0, none⟩) (l.length + 1) cap)) 27) (hbv : bv < M)
    (hown : w1.ownsRow M 27 6 (.slice (some ⟨g, 0, none⟩) (l.length + 1) cap) (l.length + 1) (es.flatten ++ d)) (hat : u.ownBlock = some g ∨ g = x.heap.size) (hd : d.length = 6)
    (hJ : JAt x (fun k => M ≤ k ∧ u.ownBlock ≠ some k ∧ nv.ownBlock ≠ some k) j (.agg d.toArray)) :
    VIn M bv kd (l ++ [j]) names w2 (.slice (some ⟨g, 0, none⟩) (l.length + 1) cap) nv (es ++ [d]) ∧ KeepL [bv] M x w2 := by
  have hub : ∀ k, u.ownBlock = some k → M ≤ k := fun k hk => own_base hV.own k hk
  have hnown : ∀ k, nv.ownBlock = some k → k < x.heap.size := fun k hk => own_lt hV.nown hk
  have hng : ∀ k, nv.ownBlock = some k → k ≠ g := fun k hk e => by
    rcases hat with q | q
    · exact hV.apart g q (e ▸ hk)
    · have := hnown k hk; omega
  have hMg : M ≤ g := own_base hown g rfl
  have hsame : ∀ k, k < x.heap.size → k ≠ bv → u.ownBlock ≠ some k → w2.heap[k]? = x.heap[k]? := fun k h1 h2 h3 => (hT.others k h2).trans (hgr.block k h1 (fun e => h3 e.symm))
  refine ⟨⟨hT.holds, ?_, ?_, ?_, by simp [hV.len], ?_, ?_⟩, ⟨hT.os.trans hgr.os, hT.tape.trans hgr.tape, hT.output.trans hgr.output, by have := hgr.size; have := hT.size; omega, fun k h1 h2 h3 => ?_⟩⟩
  · have := owns_same hown (w' := w2) fun k hk h1 h2 => hT.others k (by omega)
    simpa using this
  · exact owns_same hV.nown fun k hk h1 h2 => hsame k h1 (by omega) (fun e => hV.apart k e hk)
  · intro k hk e
    cases hk
    exact hng g e rfl
  · intro c hc
    rcases List.mem_append.1 hc with q | q
    · exact hV.six c q
    · simp at q; subst q; exact hd
  · have hmono : ∀ {y : J} {v : Value}, JAt x (fun k => M ≤ k ∧ u.ownBlock ≠ some k ∧ nv.ownBlock ≠ some k) y v → JAt w2 (fun k => M ≤ k ∧ (Value.slice (some ⟨g, 0, none⟩) (l.length + 1) cap).ownBlock ≠ some k ∧ nv.ownBlock ≠ some k) y v := fun {y v} hx => hx.mono fun k ⟨h1, h2, h3⟩ h4 => by
      have hkg : k ≠ g := fun e => by
        rcases hat with q | q
        · exact h2 (e ▸ q)
        · omega
      exact ⟨⟨h1, fun e => hkg (by cases e; rfl), h3⟩, hsame k h4 (by omega) h2⟩
    intro q y c h1 h2
    rcases Nat.lt_or_ge q l.length with h | h
    · rw [List.getElem?_append_left h] at h1
      rw [List.getElem?_append_left (by rw [hV.len]; exact h)] at h2
      exact hmono (hV.each q y c h1 h2)
    · have hq : q = l.length := by
        have := (List.getElem?_eq_some_iff.1 h1).1
        simp at this; omega
      subst hq
      rw [List.getElem?_append_right (Nat.le_refl _)] at h1
      rw [List.getElem?_append_right (by rw [hV.len]; exact Nat.le_refl _), hV.len] at h2
      simp at h1 h2
      subst h1 h2
      exact hmono hJ
  · simp only [List.mem_cons, List.not_mem_nil, or_false] at h3
    refine hsame k h1 h3 (fun e => ?_)
    have := hub k e; omega
/-- A new slice of one element. -/
def oneE (M : Nat) (x : J) : Fact := ⟨fun v y => ∃ B d, v = .slice (some ⟨B, 0, none⟩) 1 1 ∧ Holds y B d 27 ∧ d.length = 6 ∧ (∀ c ∈ d, c.oneCell' = true) ∧ JAt y (fun k => M ≤ k) x (.agg d.toArray), fun ⟨B, d, h1, h2, h3, h4, h5⟩ g => ⟨B, d, h1, h2.gr g, h3, h4, h5.gr g⟩⟩
end Go.Proofs.YtogippkapadolaaDoor

/- The object of one text and one number. -/
namespace Go.Proofs.YtogippkapadolaaDoor
open Go.RowKit

theorem dec_len : ∀ (k u : Nat), u < 10 ^ (k + 1) → (Lib.decDigits u).length ≤ k + 1
  | 0, u, h => by rw [Lib.decDigits, dif_pos (by simpa using h)]; exact Nat.le_refl _
  | k + 1, u, h => by
    by_cases hu : u < 10
    · rw [Lib.decDigits, dif_pos hu]; simp
    · rw [Lib.decDigits, dif_neg hu, List.length_append]
      have := dec_len k (u / 10) (by rw [Nat.pow_succ] at h; omega)
      simp only [List.length_cons, List.length_nil]
      omega
theorem itoa_len {n : Int} (h1 : -9223372036854775808 ≤ n) (h2 : n ≤ 9223372036854775807) : (Lib.itoa n).length ≤ 21 := by
  unfold Lib.itoa
  split
  · have := dec_len 19 n.natAbs (by omega)
    simp only [List.length_cons]; omega
  · have := dec_len 19 n.toNat (by omega)
    omega
def tJ (s : List UInt8) (n : Int) : J := .mk 5 false 0 [] [.mk 2 false n [] [] []] [s]
theorem make_t (s : List UInt8) (n : Int) : makeJ [.mk 3 false 0 s [] [], .mk 2 false n [] [] []] = tJ s n := by simp [makeJ, makeF, J.kind, J.str, tJ]
theorem right_t (s : List UInt8) (n : Int) : rightP 0 (tJ s n) = true := by
  unfold tJ
  rw [rightP, rightsP, rightsP, rightP, rightsP]
  simp [badB]
theorem show_t (s : List UInt8) (n : Int) : showJ (tJ s n) = 123 :: (textJ s ++ 58 :: Lib.itoa n) ++ [125] := by
  unfold tJ
  rw [showJ]
  simp only [partsJ, showJ]
  simp
theorem plain_t (s : List UInt8) (n : Int) : Plain (showJ (tJ s n)) := by
  rw [show_t]
  refine Plain.append (fun c hc => ?_) (fun c hc => by rw [List.mem_singleton] at hc; subst hc; decide)
  rcases List.mem_cons.1 hc with rfl | hc
  · decide
  · exact (plain_text s).append (fun c hc => by
      rcases List.mem_cons.1 hc with rfl | hc
      · decide
      · exact plain_itoa n c hc) c hc
theorem len_t {s : List UInt8} {n : Int} (hs : s.length ≤ 2000) (h1 : -9223372036854775808 ≤ n) (h2 : n ≤ 9223372036854775807) : (showJ (tJ s n)).length ≤ 13000 := by
  have := flat_len s
  have := itoa_len h1 h2
  rw [show_t]
  simp only [List.length_append, List.length_cons, List.length_nil, textJ_len]
  omega
theorem fits_t {s : List UInt8} {n : Int} (hs : s.length ≤ 2000) : Fits (tJ s n) := by
  refine .mk (by show 1 < _; decide) (by show 1 < _; decide) (by intro x hx; simp at hx; subst hx; unfold maxLen; omega) (by
    intro x hx
    simp at hx
    subst hx
    exact .mk (by decide) (by decide) (by intro x hx; simp at hx) (by intro x hx; simp at hx))
theorem fitc_t {s : List UInt8} {n : Int} : FitC (tJ s n) := by
  refine .mk (by show 1 * 88 ≤ _; decide) (by show 1 * 16 ≤ _; decide) (by
    intro x hx
    simp at hx
    subst hx
    exact .mk (by decide) (by decide) (by intro x hx; simp at hx))
theorem fit_t {s : List UInt8} {n : Int} (h1 : -9223372036854775808 ≤ n) (h2 : n ≤ 9223372036854775807) : Fit (tJ s n) := by
  refine .mk (by intro _; rfl) (by decide) (by decide) (by show 1 ≤ _; decide) (by
    intro x hx
    simp at hx
    subst hx
    exact .mk (by intro h; cases h) h1 h2 (by decide) (by intro x hx; simp at hx))
theorem ints_t {s : List UInt8} {n : Int} (h1 : -9223372036854775808 ≤ n) (h2 : n ≤ 9223372036854775807) : IntsJ (tJ s n) := by
  refine .mk (by decide) (by
    intro x hx
    simp at hx
    subst hx
    exact .mk ⟨h1, h2⟩ (by intro x hx; simp at hx))
theorem got_t (s : List UInt8) (n : Int) : getP (tJ s n) [s] = some (.mk 2 false n [] [] []) := by
  unfold tJ
  simp [getP, posN]
theorem whole_t {s : List UInt8} {n : Int} (h1 : -9223372036854775808 ≤ n) (h2 : n ≤ 9223372036854775807) : wholeP (strL (showJ (tJ s n))).data.toList = .ok (tJ s n) (showJ (tJ s n)).length := by
  rw [strL_list]
  exact whole_back (right_t s n) (ints_t h1 h2)
end Go.Proofs.YtogippkapadolaaDoor

/- Object of the program: the region of an element more (by gen_jsmake.py). -/
namespace Go.Proofs.YtogippkapadolaaDoor
open Go.RowKit

theorem bs24e (d : List Value) (h : d.length = 6) (y : World) : (Instr.buildSlice 24 1 #[(0, .agg d.toArray)]).run Tryd.prog y = .ok (.slice (some ⟨y.heap.size, 0, none⟩) 1 1) (y.alloc (.cells d.toArray 27)) := by
  obtain ⟨a, b, c, e, f, g, rfl⟩ : ∃ a b c e f g, d = [a, b, c, e, f, g] := by
    match d, h with
    | [a, b, c, e, f, g], _ => exact ⟨a, b, c, e, f, g, rfl⟩
  kernel_rfl
theorem range_gr1 {x y : World} {g o : Nat} {cs : List Value} (h : x.rangeAt g o cs) (hg : Gr x y) (hlt : g < x.heap.size) : y.rangeAt g o cs := fun j v hv => cell_below hg hlt (h j v hv)
def q10_9 : Array Oper := #[{ dst := some 36, op := Op.fieldAddr 27 (Operand.tmp 3) 4, type := 0, pos := "json.go:51", after := #[], guard := none }, { dst := some 37, op := Op.load 24 (Operand.tmp 36), type := 24, pos := "json.go:51", after := #[{ on := 0, ground := Ground.data }], guard := none }, { dst := some 38, op := Op.move (Operand.tmp 0), type := 24, pos := "json.go:51", after := #[], guard := none }, { dst := some 39, op := Op.move (Operand.tmp 5), type := 3, pos := "json.go:51", after := #[], guard := none }, { dst := some 40, op := Op.binOp BinOp.add 3 (Operand.tmp 39) (Operand.const (Value.int IntKind.i64 1)) 3, type := 3, pos := "json.go:51", after := #[{ on := 3, ground := Ground.data }], guard := none }, { dst := some 41, op := Op.indexAddr 24 (Operand.tmp 38) (Operand.tmp 40), type := 0, pos := "json.go:51", after := #[{ on := 2, ground := Ground.data }, { on := 4, ground := Ground.data }], guard := none }, { dst := some 42, op := Op.load 27 (Operand.tmp 41), type := 27, pos := "json.go:51", after := #[{ on := 5, ground := Ground.data }], guard := none }, { dst := some 43, op := Op.call { callee := Callee.value (Operand.func 24), args := #[Operand.tmp 42], argTypes := #[27] }, type := 27, pos := "json.go:51", after := #[{ on := 6, ground := Ground.data }], guard := none }, { dst := some 44, op := Op.buildSlice 24 1 #[(0, Operand.tmp 43)], type := 24, pos := "json.go:51", after := #[{ on := 7, ground := Ground.data }], guard := none }, { dst := some 45, op := Op.call { callee := Callee.builtin Builtin.append, args := #[Operand.tmp 37, Operand.tmp 44], argTypes := #[24, 24] }, type := 24, pos := "json.go:51", after := #[{ on := 1, ground := Ground.data }, { on := 8, ground := Ground.data }, { on := 7, ground := Ground.chain }], guard := none }, { dst := some 46, op := Op.fieldAddr 27 (Operand.tmp 3) 4, type := 0, pos := "json.go:51", after := #[{ on := 0, ground := Ground.phase }, { on := 1, ground := Ground.phase }, { on := 2, ground := Ground.phase }, { on := 3, ground := Ground.phase }, { on := 4, ground := Ground.phase }, { on := 5, ground := Ground.phase }, { on := 6, ground := Ground.phase }, { on := 7, ground := Ground.phase }, { on := 8, ground := Ground.phase }, { on := 9, ground := Ground.phase }], guard := none }, { dst := none, op := Op.store 24 (Operand.tmp 46) (Operand.tmp 45), type := 0, pos := "json.go:51", after := #[{ on := 10, ground := Ground.data }, { on := 9, ground := Ground.data }, { on := 9, ground := Ground.chain }, { on := 0, ground := Ground.phase }, { on := 1, ground := Ground.phase }, { on := 2, ground := Ground.phase }, { on := 3, ground := Ground.phase }, { on := 4, ground := Ground.phase }, { on := 5, ground := Ground.phase }, { on := 6, ground := Ground.phase }, { on := 7, ground := Ground.phase }, { on := 8, ground := Ground.phase }, { on := 9, ground := Ground.phase }], guard := none }]
set_option maxRecDepth 100000 in
theorem r10_9 {Q : Exit → Act → World → Prop} {a0 : Act} {w : World} (hz : a0.tmps.size = 48) {M bv g off n cap i : Nat} {kd : Int} {l : List J} {names : List (List UInt8)} {u nv : Value} {es : List (List Value)} {x : J} {c : List Value} (hV : VIn M bv kd l names w u nv es) (hM : M ≤ w.heap.size) (hbv : bv < M) (hn : (l.length + 1) * 88 ≤ 140737488355328)
    (hi : i + 1 < n) (hi64 : (i : Int) + 1 ≤ 9223372036854775807) (hr : w.rangeAt g (off + (i + 1) * 6) c) (hgw : g < w.heap.size) (h6 : c.length = 6) (hc : ∀ y, Gr w y → Calls Tryd.prog 24 #[.agg c.toArray] y fun e z => ∃ u, e = .returned u ∧ Gr y z ∧ (cpF w.heap.size x).holds u z) (e0 : a0.eval (.tmp 0) = .slice (some ⟨g, off, none⟩) n cap) (e3 : a0.eval (.tmp 3) = .pointer (some ⟨bv, 0, none⟩)) (e5 : a0.eval (.tmp 5) = .int .i64 (i : Int)) (hend : ∀ ac wz g' cap' d, After [46, 45, 36, 37, 38, 39, 40, 41, 42, 43, 44] a0 ac → VIn M bv kd (l ++ [x]) names wz (.slice (some ⟨g', 0, none⟩) (l.length + 1) cap') nv (es ++ [d]) → KeepL [bv] M w wz → Q .normal ac wz) : (Code.region 9 q10_9 true).wp Tryd.prog Q a0 w := by
  refine drawn_tail (by kernel_rfl) (by kernel_rfl) 9 (by decide) (by kernel_rfl) (by kernel_rfl) [36, 37, 38, 39, 40, 41, 42, 43, 44] (fun | 36 => .val (.pointer (some ⟨bv, 4, none⟩)) | 37 => .val (u) | 38 => .val (.slice (some ⟨g, off, none⟩) n cap) | 39 => .val (.int .i64 (i : Int)) | 40 => .val (.int .i64 ((i : Int) + 1)) | 41 => .val (.pointer (some ⟨g, off + (i + 1) * 6, none⟩)) | 42 => .val (.agg c.toArray) | 43 => cpF w.heap.size x | 44 => oneE w.heap.size x | _ => .any) (by kernel_rfl) (List.forall_mem_cons.2 ⟨?s0, List.forall_mem_cons.2 ⟨?s1, List.forall_mem_cons.2 ⟨?s2, List.forall_mem_cons.2 ⟨?s3, List.forall_mem_cons.2 ⟨?s4, List.forall_mem_cons.2 ⟨?s5, List.forall_mem_cons.2 ⟨?s6, List.forall_mem_cons.2 ⟨?s7, List.forall_mem_cons.2 ⟨?s8, fun o ho => nomatch ho⟩⟩⟩⟩⟩⟩⟩⟩⟩) ?e
  case s0 => exact sa_fa 27 (.tmp 3) 4 36 (.pointer (some ⟨bv, 0, none⟩)) (.pointer (some ⟨bv, 4, none⟩)) rfl rfl rfl (.old 3 _ (by decide) e3) (by intro w; kernel_rfl) rfl
  case s1 => exact sa_loadc 24 (.tmp 36) 37 (bv) (4) (u) rfl rfl rfl (by intro w; kernel_rfl) (.new 36 (by kernel_rfl) (by rw [hz]; decide)) (fun y hy => (hV.box.gr hy).at 4 _ rfl) rfl
  case s2 => exact sa_move (.tmp 0) 38 (.val (.slice (some ⟨g, off, none⟩) n cap)) (.inl rfl) rfl rfl (.old 0 _ (by decide) e0) rfl
  case s3 => exact sa_move (.tmp 5) 39 (.val (.int .i64 (i : Int))) (.inl rfl) rfl rfl (.old 5 _ (by decide) e5) rfl
  case s4 => exact sa_bin .add 3 (.tmp 39) (.const _) 3 40 (.int .i64 (i : Int)) (.int .i64 1) (.int .i64 ((i : Int) + 1)) rfl rfl rfl (.new 39 (by kernel_rfl) (by rw [hz]; decide)) (.const _) guard_int (bin_add rfl (by omega) (by omega)) rfl
  case s5 => exact sa_ixa 24 (.tmp 38) (.tmp 40) 41 (.slice (some ⟨g, off, none⟩) n cap) (.int .i64 ((i : Int) + 1)) (.pointer (some ⟨g, off + (i + 1) * 6, none⟩)) rfl rfl rfl (.new 38 (by kernel_rfl) (by rw [hz]; decide)) (.new 40 (by kernel_rfl) (by rw [hz]; decide)) (by intro y; have := (ix_slice (P := Tryd.prog) (b := g) (o := off) und24 size27 hi rfl : ∀ w, (Instr.indexAt 24 (.slice (some ⟨g, off, none⟩) n cap) (.int .i64 ((i + 1 : Nat) : Int))).run Tryd.prog w = _); exact this y) rfl
  case s6 => exact sa_row 27 (.tmp 41) 42 g (off + (i + 1) * 6) 6 _ c rfl rfl rfl Tryd.underlying27 rfl siz27 h6 (.new 41 (by kernel_rfl) (by rw [hz]; decide)) (fun y hy => range_gr1 hr hy hgw) rfl
  case s7 => exact sa_call1 24 (.tmp 42) _ 43 (.val (.agg c.toArray)) rfl rfl rfl (.new 42 (by kernel_rfl) (by rw [hz]; decide)) (enters_of Tryd.func24 (by kernel_rfl) rfl) (fun v0 y hgy q0 => by rw [show v0 = _ from q0]; exact hc y hgy)
  case s8 => exact (sa_of 44 rfl rfl fun f a y cx => by
      have hx : JAt y (fun k => w.heap.size ≤ k) x (a.eval (.tmp 43)) := (Has.new (T := (fun | 36 => .val (.pointer (some ⟨bv, 4, none⟩)) | 37 => .val (u) | 38 => .val (.slice (some ⟨g, off, none⟩) n cap) | 39 => .val (.int .i64 (i : Int)) | 40 => .val (.int .i64 ((i : Int) + 1)) | 41 => .val (.pointer (some ⟨g, off + (i + 1) * 6, none⟩)) | 42 => .val (.agg c.toArray) | 43 => cpF w.heap.size x | 44 => oneE w.heap.size x | _ => .any)) 43 (by kernel_rfl) (by rw [hz]; decide)).get cx
      obtain ⟨d, hd, h6, h1⟩ := jat_cells hx
      refine op_val (.slice (some ⟨y.heap.size, 0, none⟩) 1 1) (y := y.alloc (.cells d.toArray 27)) ?_ ⟨_, rfl, Gr.alloc _ _, y.heap.size, d, rfl, holds_new y d 27, h6, h1, (hd ▸ hx : JAt y (fun k => w.heap.size ≤ k) x (.agg d.toArray)).gr (Gr.alloc _ _)⟩
      show (execOp a.eval (Oper.mk _ (.buildSlice 24 1 #[(0, .tmp 43)]) _ _ _ _)).run Tryd.prog y = _
      unfold execOp
      simp only [List.map_toArray, List.map_cons, List.map_nil, Sem.run_bind, hd, bs24e d h6, Sem.run_pure, Result.andThen_ok])
  case e =>
  intro ac wz hA hgr hv
  have o37 : ac.eval (.tmp 37) = u := hv 37 (by kernel_rfl) (by rw [hz]; decide)
  have o44 := hv 44 (by kernel_rfl) (by rw [hz]; decide)
  obtain ⟨B, d, hv44, hB, d6, d1, hJ⟩ : (oneE w.heap.size x).holds (ac.eval (.tmp 44)) wz := o44
  have hVx : VIn M bv kd l names wz u nv es := hV.same ((hgr.block bv hV.box.lt)) fun k _ h => hgr.block k h
  obtain ⟨ii, i1, i2, i3, i4⟩ := inf27
  have hub : ∀ k, u.ownBlock = some k → M ≤ k := fun k hk => own_base hVx.own k hk
  refine wpList_append_lies wz rfl (.tmp 37) (.tmp 44) 24 rfl M 27 ii _ 6 88 und24 i1 i2 i3 i4 rfl (by omega) u l.length es.flatten o37 hVx.own ⟨B, 0, none⟩ 1 1 d hv44 (by rw [d6]) (World.news_of_block hB) d1 (by omega) (by unfold maxLen; omega) (by omega) (Nat.le_trans hM hgr.size) wz.heap.size rfl ?_
  intro g' cap' w1 hown hg1 hat hlt
  have hbox : Holds w1 bv (boxV kd u nv) 27 := (hg1.block bv hVx.box.lt (fun e => by have := hub bv e.symm; omega)).trans hVx.box
  have hAz : (ac.put (some 45) (.slice (some ⟨g', 0, none⟩) (l.length + 1) cap')).tmps.size = 48 := by rw [put_size, hA.size, hz]
  have y3 : (ac.put (some 45) (.slice (some ⟨g', 0, none⟩) (l.length + 1) cap')).eval (.tmp 3) = .pointer (some ⟨bv, 0, none⟩) := (ev_put (by rw [hA.size, hz]; decide)).trans ((if_neg (by decide)).trans ((hA.old 3 (by decide)).trans e3))
  have y9 : (ac.put (some 45) (.slice (some ⟨g', 0, none⟩) (l.length + 1) cap')).eval (.tmp 45) = .slice (some ⟨g', 0, none⟩) (l.length + 1) cap' := (ev_put (by rw [hA.size, hz]; decide)).trans (if_pos rfl)
  refine wl_of rfl (op_fa 27 (.tmp 3) 4 _ (.pointer (some ⟨bv, 4, none⟩)) rfl y3 (fun w => by kernel_rfl) ?_)
  have hAf : After [46, 45, 36, 37, 38, 39, 40, 41, 42, 43, 44] a0 ((ac.put (some 45) (.slice (some ⟨g', 0, none⟩) (l.length + 1) cap')).put (some 46) (.pointer (some ⟨bv, 4, none⟩))) := (hA.put 45 _).put 46 _
  have z10 : ((ac.put (some 45) (.slice (some ⟨g', 0, none⟩) (l.length + 1) cap')).put (some 46) (.pointer (some ⟨bv, 4, none⟩))).eval (.tmp 46) = .pointer (some ⟨bv, 4, none⟩) := (ev_put (by rw [hAz]; decide)).trans (if_pos rfl)
  have z9 : ((ac.put (some 45) (.slice (some ⟨g', 0, none⟩) (l.length + 1) cap')).put (some 46) (.pointer (some ⟨bv, 4, none⟩))).eval (.tmp 45) = .slice (some ⟨g', 0, none⟩) (l.length + 1) cap' := (ev_put (by rw [hAz]; decide)).trans ((if_neg (by decide)).trans y9)
  generalize (ac.put (some 45) (.slice (some ⟨g', 0, none⟩) (l.length + 1) cap')).put (some 46) (.pointer (some ⟨bv, 4, none⟩)) = az at hAf z10 z9 ⊢
  refine wl_of rfl (op_store1 24 (.tmp 46) (.tmp 45) rfl bv 4 z10 _ z9 rfl rfl size24 (hbox.at 4 _ rfl) (hbox.frozen 4) ?_)
  have hT := turned_set hbox 4 (.slice (some ⟨g', 0, none⟩) (l.length + 1) cap')
  obtain ⟨hV', hK⟩ := vin_elem hVx hg1 hT hbv hown hat d6 (hJ.mono fun k h1 _ => ⟨⟨Nat.le_trans hM h1, fun e => by have := own_lt hV.own e; omega, fun e => by have := own_lt hV.nown e; omega⟩, rfl⟩)
  exact wl_end (hend az _ g' cap' d hAf hV' (KeepL.trans ⟨hgr.os, hgr.tape, hgr.output, hgr.size, fun k h1 _ _ => hgr.block k h1⟩ hK))
end Go.Proofs.YtogippkapadolaaDoor
