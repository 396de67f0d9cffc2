/- JsEach, JsList. -/
import Derived.Test.YtogippkapadolaaDoorYJ9
import Derived.Test.YtogippkapadolaaDoorYJ7
/- each: what stands in brackets (by gen_jseach.py). -/
namespace Go.Proofs.YtogippkapadolaaDoor
open Go.RowKit
def q69_4 : Array Oper := #[{ dst := some 30, op := Op.move (Operand.tmp 0), type := 45, pos := "parse.go:145", after := #[], guard := none }, { dst := some 31, op := Op.call { callee := Callee.value (Operand.func 36), args := #[Operand.tmp 30], argTypes := #[45] }, type := 5, pos := "parse.go:145", after := #[{ on := 0, ground := Ground.data }], guard := none }, { dst := some 32, op := Op.move (Operand.tmp 1), type := 9, pos := "parse.go:145", after := #[], guard := none }, { dst := some 33, op := Op.index 9 (Operand.tmp 32) (Operand.const (Value.int IntKind.i64 0)), type := 5, pos := "parse.go:145", after := #[{ on := 2, ground := Ground.data }], guard := none }, { dst := some 34, op := Op.binOp BinOp.neq 5 (Operand.tmp 31) (Operand.tmp 33) 5, type := 4, pos := "parse.go:145", after := #[{ on := 1, ground := Ground.data }, { on := 3, ground := Ground.data }], guard := none }]
def q69_5 : Array Oper := #[{ dst := some 35, op := Op.move (Operand.tmp 2), type := 1, pos := "parse.go:146", after := #[], guard := none }, { dst := some 36, op := Op.call { callee := Callee.value (Operand.tmp 35), args := #[], argTypes := #[] }, type := 0, pos := "parse.go:146", after := #[{ on := 0, ground := Ground.data }], guard := none }]
def q69_6 : Array Oper := #[{ dst := some 37, op := Op.move (Operand.tmp 0), type := 45, pos := "parse.go:147", after := #[], guard := none }, { dst := some 38, op := Op.call { callee := Callee.value (Operand.func 36), args := #[Operand.tmp 37], argTypes := #[45] }, type := 5, pos := "parse.go:147", after := #[{ on := 0, ground := Ground.data }], guard := none }, { dst := some 39, op := Op.binOp BinOp.eql 5 (Operand.tmp 38) (Operand.const (Value.int IntKind.u8 44)) 5, type := 4, pos := "parse.go:147", after := #[{ on := 1, ground := Ground.data }], guard := none }]
def q69_7 : Array Oper := #[{ dst := some 40, op := Op.move (Operand.tmp 0), type := 45, pos := "parse.go:148", after := #[], guard := none }, { dst := some 41, op := Op.nilCheck (Operand.tmp 40), type := 0, pos := "parse.go:148", after := #[{ on := 0, ground := Ground.data }], guard := none }, { dst := some 42, op := Op.fieldAddr 47 (Operand.tmp 41) 1, type := 0, pos := "parse.go:148", after := #[{ on := 1, ground := Ground.data }], guard := none }, { dst := some 43, op := Op.load 3 (Operand.tmp 42), type := 3, pos := "parse.go:148", after := #[{ on := 2, ground := Ground.data }], guard := none }, { dst := some 44, op := Op.binOp BinOp.add 3 (Operand.tmp 43) (Operand.const (Value.int IntKind.i64 1)) 3, type := 3, pos := "parse.go:148", after := #[{ on := 3, ground := Ground.data }], guard := none }, { dst := some 45, op := Op.nilCheck (Operand.tmp 40), type := 0, pos := "parse.go:148", after := #[{ on := 0, ground := Ground.data }, { on := 0, ground := Ground.phase }, { on := 1, ground := Ground.phase }, { on := 2, ground := Ground.phase }, { on := 3, ground := Ground.phase }, { on := 4, ground := Ground.phase }], guard := none }, { dst := some 46, op := Op.fieldAddr 47 (Operand.tmp 45) 1, type := 0, pos := "parse.go:148", after := #[{ on := 5, ground := Ground.data }, { on := 0, ground := Ground.phase }, { on := 1, ground := Ground.phase }, { on := 2, ground := Ground.phase }, { on := 3, ground := Ground.phase }, { on := 4, ground := Ground.phase }], guard := none }, { dst := none, op := Op.store 3 (Operand.tmp 46) (Operand.tmp 44), type := 0, pos := "parse.go:148", after := #[{ on := 6, ground := Ground.data }, { on := 4, ground := Ground.data }, { on := 0, ground := Ground.phase }, { on := 1, ground := Ground.phase }, { on := 2, ground := Ground.phase }, { on := 3, ground := Ground.phase }, { on := 4, ground := Ground.phase }], guard := none }]
def q69_8 : Array Oper := #[{ dst := some 47, op := Op.move (Operand.tmp 2), type := 1, pos := "parse.go:149", after := #[], guard := none }, { dst := some 48, op := Op.call { callee := Callee.value (Operand.tmp 47), args := #[], argTypes := #[] }, type := 0, pos := "parse.go:149", after := #[{ on := 0, ground := Ground.data }], guard := none }]
def q69_9 : Array Oper := #[{ dst := some 49, op := Op.move (Operand.tmp 0), type := 45, pos := "parse.go:152", after := #[], guard := none }, { dst := some 50, op := Op.move (Operand.tmp 1), type := 9, pos := "parse.go:152", after := #[], guard := none }, { dst := some 51, op := Op.call { callee := Callee.value (Operand.func 55), args := #[Operand.tmp 49, Operand.tmp 50], argTypes := #[45, 9] }, type := 0, pos := "parse.go:152", after := #[{ on := 0, ground := Ground.data }, { on := 1, ground := Ground.data }], guard := none }]
def q69_10 : Array Oper := #[{ dst := some 52, op := Op.move (Operand.tmp 0), type := 45, pos := "parse.go:153", after := #[], guard := none }, { dst := some 53, op := Op.nilCheck (Operand.tmp 52), type := 0, pos := "parse.go:153", after := #[{ on := 0, ground := Ground.data }], guard := none }, { dst := some 54, op := Op.fieldAddr 47 (Operand.tmp 53) 2, type := 0, pos := "parse.go:153", after := #[{ on := 1, ground := Ground.data }], guard := none }, { dst := some 55, op := Op.load 3 (Operand.tmp 54), type := 3, pos := "parse.go:153", after := #[{ on := 2, ground := Ground.data }], guard := none }, { dst := some 56, op := Op.binOp BinOp.sub 3 (Operand.tmp 55) (Operand.const (Value.int IntKind.i64 1)) 3, type := 3, pos := "parse.go:153", after := #[{ on := 3, ground := Ground.data }], guard := none }, { dst := some 57, op := Op.nilCheck (Operand.tmp 52), type := 0, pos := "parse.go:153", after := #[{ on := 0, ground := Ground.data }, { on := 0, ground := Ground.phase }, { on := 1, ground := Ground.phase }, { on := 2, ground := Ground.phase }, { on := 3, ground := Ground.phase }, { on := 4, ground := Ground.phase }], guard := none }, { dst := some 58, op := Op.fieldAddr 47 (Operand.tmp 57) 2, type := 0, pos := "parse.go:153", after := #[{ on := 5, ground := Ground.data }, { on := 0, ground := Ground.phase }, { on := 1, ground := Ground.phase }, { on := 2, ground := Ground.phase }, { on := 3, ground := Ground.phase }, { on := 4, ground := Ground.phase }], guard := none }, { dst := none, op := Op.store 3 (Operand.tmp 58) (Operand.tmp 56), type := 0, pos := "parse.go:153", after := #[{ on := 6, ground := Ground.data }, { on := 4, ground := Ground.data }, { on := 0, ground := Ground.phase }, { on := 1, ground := Ground.phase }, { on := 2, ground := Ground.phase }, { on := 3, ground := Ground.phase }, { on := 4, ground := Ground.phase }], guard := none }]
def c69c : Code := (Code.cond (Operand.tmp 34) ((Code.region 5 q69_5 false).seq (Code.block 0 ((((Code.region 6 q69_6 false).seq (Code.cond (Operand.tmp 39) Code.skip (Code.exit 0))).seq (Code.block 1 ((Code.region 7 q69_7 false).seq (Code.region 8 q69_8 false)))).loop))) Code.skip)
def c69r : Code := ((Code.region 9 q69_9 false).seq (Code.region 10 q69_10 false))
set_option maxRecDepth 100000 in
theorem r69_4 {Q : Exit → Act → World → Prop} {a0 : Act} {w : World} (hz : a0.tmps.size = 59) {b p k : Nat} {s : ByteArray} {c : UInt8} (hP : PAt w b s p k) (hp : p ≤ s.size) (hs : s.size < 9223372036854775807) (e0 : a0.eval (.tmp 0) = (.pointer (some ⟨b, 0, none⟩))) (e1 : a0.eval (.tmp 1) = .string ⟨#[c]⟩)
    (hend : ∀ ac wz, After [34, 30, 31, 32, 33] a0 ac → ac.eval (.tmp 34) = .bool (hereP s.data.toList (nextP s.data.toList p) != c) → PAt wz b s (nextP s.data.toList p) k → Upd b w wz → Q .normal ac wz) : (Code.region 4 q69_4 true).wp Tryd.prog Q a0 w := by
  refine drawn_ph (R := Upd b) (fun h k => h.trans k) gr_upd (by kernel_rfl) (by kernel_rfl) (by kernel_rfl) 4 (by decide) (by kernel_rfl) (by kernel_rfl) [30, 31, 32, 33] [31] (by simp) (fun | 30 => .val (.pointer (some ⟨b, 0, none⟩)) | 31 => .val (.int .u8 ((hereP s.data.toList (nextP s.data.toList p)).toNat : Int)) | 32 => .val (.string ⟨#[c]⟩) | 33 => .val (.int .u8 (c.toNat : Int)) | _ => .any) (fun | 0, y => PAt y b s p k | _ + 1, y => PAt y b s (nextP s.data.toList p) k) (by kernel_rfl) (by kernel_rfl) hP (fun {n x y} h g => by cases n with
    | zero => exact Holds.gr (show PAt x b s p k from h) g
    | succ n => exact Holds.gr (show PAt x b s (nextP s.data.toList p) k from h) g) (List.forall_mem_cons.2 ⟨?s0, List.forall_mem_cons.2 ⟨?s1, List.forall_mem_cons.2 ⟨?s2, List.forall_mem_cons.2 ⟨?s3, fun o ho => nomatch ho⟩⟩⟩⟩) ?e
  case s0 => exact .inl ⟨sr_move (.tmp 0) 30 (.val (.pointer (some ⟨b, 0, none⟩))) (.inl rfl) rfl rfl (.old 0 _ (by decide) e0) rfl, fun d hd => by cases hd; decide⟩
  case s1 => exact .inr ⟨0, 31, rfl, rfl, .inl rfl, sc_call1 0 36 (.tmp 30) _ 31 (.pointer (some ⟨b, 0, none⟩)) _ rfl rfl rfl (.new 30 (by kernel_rfl) (by rw [hz]; decide)) (enters_of Tryd.func36 (by kernel_rfl) rfl) (fun y hy => (next_any b s p k hp hs y hy).mono fun e z ⟨e1, e2, e3⟩ => ⟨e1, e3, e2⟩) rfl⟩
  case s2 => exact .inl ⟨sr_move (.tmp 1) 32 (.val (.string ⟨#[c]⟩)) (.inl rfl) rfl rfl (.old 1 _ (by decide) e1) rfl, fun d hd => by cases hd; decide⟩
  case s3 => exact .inl ⟨sr_of 33 rfl rfl fun f a y c' => op_ix 9 (.tmp 32) (.const (.int .i64 0)) (.string ⟨#[c]⟩) (.int .i64 0) (.int .u8 (c.toNat : Int)) rfl ((HasR.new (T := (fun | 30 => .val (.pointer (some ⟨b, 0, none⟩)) | 31 => .val (.int .u8 ((hereP s.data.toList (nextP s.data.toList p)).toNat : Int)) | 32 => .val (.string ⟨#[c]⟩) | 33 => .val (.int .u8 (c.toNat : Int)) | _ => .any)) 32 (by kernel_rfl) (by rw [hz]; decide)).get c') rfl (ix_str (i := 0) (wd := ⟨#[c]⟩) (Nat.zero_lt_succ _)) ⟨_, rfl, Gr.refl _, rfl⟩, fun d hd => by cases hd; decide⟩
  case e =>
  intro ac x hA hR hS hf
  have x31 : ac.eval (.tmp 31) = .int .u8 ((hereP s.data.toList (nextP s.data.toList p)).toNat : Int) := hf 31 (by kernel_rfl) (by rw [hz]; decide)
  have x33 : ac.eval (.tmp 33) = .int .u8 (c.toNat : Int) := hf 33 (by kernel_rfl) (by rw [hz]; decide)
  refine wl_of rfl (op_bin .neq 5 (.tmp 31) (.tmp 33) 5 _ _ (.bool (hereP s.data.toList (nextP s.data.toList p) != c)) rfl x31 x33 guard_u8 (bin_neq8 _ _) (wl_end ?_))
  exact hend _ x (hA.put 34 _) ((ev_put (by rw [hA.size, hz]; decide)).trans (if_pos rfl)) hS hR
set_option maxHeartbeats 2000000 in
set_option maxRecDepth 100000 in
theorem each_rest {b k q : Nat} {s : ByteArray} {c : UInt8} {R : Ending → World → Prop} {ac : Act} {w : World} (hz : ac.tmps.size = 59) (hd : ac.defers = []) (e0 : ac.eval (.tmp 0) = .pointer (some ⟨b, 0, none⟩)) (e1 : ac.eval (.tmp 1) = .string ⟨#[c]⟩) (hP : PAt w b s q (k + 1)) (hq : q ≤ s.size) (hs : s.size < 9223372036854775807) (hk : k < 16) (hc : c ≠ 0)
    (hok : ∀ q' wz, passP s.data.toList [c] q = .ok () q' → PAt wz b s q' k → Upd b w wz → R (.returned (.tuple #[])) wz) (hbad : ∀ q' er wz, passP s.data.toList [c] q = .bad q' er → Upd b w wz → R (.panicked (faultV q' er)) wz) : c69r.wp Tryd.prog (bodyPost Tryd.prog Tryd.f69 R) ac w := by
  have hps := pass_any b s q (k + 1) ⟨#[c]⟩ hq hs (fun d hd => by have e : d = c := (by simpa using hd); rw [e]; exact hc) w hP
  have e : ac = ⟨(ac.eval (.tmp 0) :: ac.eval (.tmp 1) :: ac.eval (.tmp 2) :: ac.eval (.tmp 3) :: ac.eval (.tmp 4) :: ac.eval (.tmp 5) :: ac.eval (.tmp 6) :: ac.eval (.tmp 7) :: ac.eval (.tmp 8) :: ac.eval (.tmp 9) :: ac.eval (.tmp 10) :: ac.eval (.tmp 11) :: ac.eval (.tmp 12) :: ac.eval (.tmp 13) :: ac.eval (.tmp 14) :: ac.eval (.tmp 15) :: ac.eval (.tmp 16) :: ac.eval (.tmp 17) :: ac.eval (.tmp 18) :: ac.eval (.tmp 19) :: ac.eval (.tmp 20) :: ac.eval (.tmp 21) :: ac.eval (.tmp 22) :: ac.eval (.tmp 23) :: ac.eval (.tmp 24) :: ac.eval (.tmp 25) :: ac.eval (.tmp 26) :: ac.eval (.tmp 27) :: ac.eval (.tmp 28) :: ac.eval (.tmp 29) :: ac.eval (.tmp 30) :: ac.eval (.tmp 31) :: ac.eval (.tmp 32) :: ac.eval (.tmp 33) :: ac.eval (.tmp 34) :: ac.eval (.tmp 35) :: ac.eval (.tmp 36) :: ac.eval (.tmp 37) :: ac.eval (.tmp 38) :: ac.eval (.tmp 39) :: ac.eval (.tmp 40) :: ac.eval (.tmp 41) :: ac.eval (.tmp 42) :: ac.eval (.tmp 43) :: ac.eval (.tmp 44) :: ac.eval (.tmp 45) :: ac.eval (.tmp 46) :: ac.eval (.tmp 47) :: ac.eval (.tmp 48) :: ac.eval (.tmp 49) :: ac.eval (.tmp 50) :: ac.eval (.tmp 51) :: ac.eval (.tmp 52) :: ac.eval (.tmp 53) :: ac.eval (.tmp 54) :: ac.eval (.tmp 55) :: ac.eval (.tmp 56) :: ac.eval (.tmp 57) :: ac.eval (.tmp 58) :: ([] : List Value)).toArray, []⟩ := (act_lit hz hd).trans rfl
  rw [e0, e1] at e
  clear e0 e1 hz hd
  generalize ac.eval (.tmp 2) = x2 at e
  generalize ac.eval (.tmp 3) = x3 at e
  generalize ac.eval (.tmp 4) = x4 at e
  generalize ac.eval (.tmp 5) = x5 at e
  generalize ac.eval (.tmp 6) = x6 at e
  generalize ac.eval (.tmp 7) = x7 at e
  generalize ac.eval (.tmp 8) = x8 at e
  generalize ac.eval (.tmp 9) = x9 at e
  generalize ac.eval (.tmp 10) = x10 at e
  generalize ac.eval (.tmp 11) = x11 at e
  generalize ac.eval (.tmp 12) = x12 at e
  generalize ac.eval (.tmp 13) = x13 at e
  generalize ac.eval (.tmp 14) = x14 at e
  generalize ac.eval (.tmp 15) = x15 at e
  generalize ac.eval (.tmp 16) = x16 at e
  generalize ac.eval (.tmp 17) = x17 at e
  generalize ac.eval (.tmp 18) = x18 at e
  generalize ac.eval (.tmp 19) = x19 at e
  generalize ac.eval (.tmp 20) = x20 at e
  generalize ac.eval (.tmp 21) = x21 at e
  generalize ac.eval (.tmp 22) = x22 at e
  generalize ac.eval (.tmp 23) = x23 at e
  generalize ac.eval (.tmp 24) = x24 at e
  generalize ac.eval (.tmp 25) = x25 at e
  generalize ac.eval (.tmp 26) = x26 at e
  generalize ac.eval (.tmp 27) = x27 at e
  generalize ac.eval (.tmp 28) = x28 at e
  generalize ac.eval (.tmp 29) = x29 at e
  generalize ac.eval (.tmp 30) = x30 at e
  generalize ac.eval (.tmp 31) = x31 at e
  generalize ac.eval (.tmp 32) = x32 at e
  generalize ac.eval (.tmp 33) = x33 at e
  generalize ac.eval (.tmp 34) = x34 at e
  generalize ac.eval (.tmp 35) = x35 at e
  generalize ac.eval (.tmp 36) = x36 at e
  generalize ac.eval (.tmp 37) = x37 at e
  generalize ac.eval (.tmp 38) = x38 at e
  generalize ac.eval (.tmp 39) = x39 at e
  generalize ac.eval (.tmp 40) = x40 at e
  generalize ac.eval (.tmp 41) = x41 at e
  generalize ac.eval (.tmp 42) = x42 at e
  generalize ac.eval (.tmp 43) = x43 at e
  generalize ac.eval (.tmp 44) = x44 at e
  generalize ac.eval (.tmp 45) = x45 at e
  generalize ac.eval (.tmp 46) = x46 at e
  generalize ac.eval (.tmp 47) = x47 at e
  generalize ac.eval (.tmp 48) = x48 at e
  generalize ac.eval (.tmp 49) = x49 at e
  generalize ac.eval (.tmp 50) = x50 at e
  generalize ac.eval (.tmp 51) = x51 at e
  generalize ac.eval (.tmp 52) = x52 at e
  generalize ac.eval (.tmp 53) = x53 at e
  generalize ac.eval (.tmp 54) = x54 at e
  generalize ac.eval (.tmp 55) = x55 at e
  generalize ac.eval (.tmp 56) = x56 at e
  generalize ac.eval (.tmp 57) = x57 at e
  generalize ac.eval (.tmp 58) = x58 at e
  unfold c69r q69_9 q69_10
  subst e
  have hps : Calls Tryd.prog 55 #[.pointer (some ⟨b, 0, none⟩), .string ⟨#[c]⟩] w (Done b s (k + 1) w (passP s.data.toList [c] q) nilV) := hps
  cases hr : passP s.data.toList [c] q with
  | bad q' er =>
    rw [hr] at hps
    have hbad := fun wz => hbad q' er wz hr
    clear hok hr hP
    go_wp2_with (go_at_call 55; refine hps.mono ?_; rintro e w1 ⟨hU, rfl⟩)
    exact ⟨rfl, hbad _ hU⟩
  | ok u q' =>
    rw [hr] at hps
    have hfin : ∀ z, PAt z b s q' (k + 1) → Upd b w z → z.cell? ⟨b, 2, none⟩ = some (.int .i64 (((k + 1 : Nat) : Int))) ∧ z.frozen? ⟨b, 2, none⟩ = false ∧ R (.returned (.tuple #[])) (z.setCell ⟨b, 2, none⟩ (.int .i64 (((k + 1 : Nat) : Int) - 1))) := fun z hPz hUz => ⟨hPz.at 2 _ rfl, hPz.frozen 2, hok q' _ hr (by
      have e : (((k + 1 : Nat) : Int) - 1) = (k : Int) := by omega
      rw [e]; exact hPz.set 2 _) (hUz.setCell 2 _)⟩
    have hk2 : ((k + 1 : Nat) : Int) ≤ 17 := by omega
    have hk3 : 0 ≤ ((k + 1 : Nat) : Int) := by omega
    clear hok hbad hr hP hk
    generalize ((k + 1 : Nat) : Int) = kk at *
    go_wp2_with (go_at_call 55; refine hps.mono ?_; rintro e w1 ⟨hU, _, rfl, rfl, hP1⟩; obtain ⟨c2, f2, hR⟩ := hfin w1 hP1 hU; clear hfin)
    exact bodyPost_end (results_none (by kernel_rfl) _ _ _) rfl hR
set_option maxHeartbeats 4000000 in
set_option maxRecDepth 100000 in
theorem each_mid70 {σ : Type} {Inv : σ → World → Prop} {step : σ → Nat → Res σ} {b k M bv bp : Nat} {s : ByteArray} {Ls : List Nat} {c : UInt8} (t : Bool) {Q : Exit → Act → World → Prop} {ac : Act} {w0 w : World} (hg : Goes s.data.toList step) (hz : ac.tmps.size = 59) (hd : ac.defers = []) (e0 : ac.eval (.tmp 0) = .pointer (some ⟨b, 0, none⟩)) (e1 : ac.eval (.tmp 1) = .string ⟨#[c]⟩) (e2 : ac.eval (.tmp 2) = .func (.func 70) #[] #[.pointer (some ⟨bv, 0, none⟩), .pointer (some ⟨bp, 0, none⟩)]) (e34 : ac.eval (.tmp 34) = .bool t)
    {p0 : Nat} {x0 : σ} {Rc : σ → Nat → Prop} (hr1 : ∀ x q q', Rc x q → q ≤ q' → Rc x q') (hr2 : ∀ x q y q', q ≤ s.size → Rc x q → step x q = .ok y q' → Rc y q') (hR0 : Rc x0 p0) (hP : PAt w b s p0 (k + 1)) (hp0 : p0 ≤ s.size) (hI : Inv x0 w) (hs : s.size < 140737488355328) (hst : ∀ x y z, Inv x y → Upd b y z → Inv x z) (hK : KeepL Ls M w0 w) (hb : b ∈ Ls)
    (htake : ∀ x q y, q ≤ s.size → Rc x q → PAt y b s q (k + 1) → Inv x y → KeepL Ls M w0 y → Calls Tryd.prog 70 #[.pointer (some ⟨bv, 0, none⟩), .pointer (some ⟨bp, 0, none⟩)] y (Took Ls M b s k Inv y (step x q)))
    (hok : ∀ ac' wz x q, ac'.tmps.size = 59 → ac'.defers = [] → ac'.eval (.tmp 0) = .pointer (some ⟨b, 0, none⟩) → ac'.eval (.tmp 1) = .string ⟨#[c]⟩ → eachM s.data.toList step t x0 p0 = .ok x q → q ≤ s.size → PAt wz b s q (k + 1) → Inv x wz → KeepL Ls M w0 wz → Q .normal ac' wz)
    (hbad : ∀ ac' wz q er, ac'.defers = [] → eachM s.data.toList step t x0 p0 = .bad q er → KeepL Ls M w0 wz → Q (.panic (faultV q er)) ac' wz) : c69c.wp Tryd.prog Q ac w := by
  have hsl : s.data.toList.length = s.size := rfl
  have e : ac = ⟨(ac.eval (.tmp 0) :: ac.eval (.tmp 1) :: ac.eval (.tmp 2) :: ac.eval (.tmp 3) :: ac.eval (.tmp 4) :: ac.eval (.tmp 5) :: ac.eval (.tmp 6) :: ac.eval (.tmp 7) :: ac.eval (.tmp 8) :: ac.eval (.tmp 9) :: ac.eval (.tmp 10) :: ac.eval (.tmp 11) :: ac.eval (.tmp 12) :: ac.eval (.tmp 13) :: ac.eval (.tmp 14) :: ac.eval (.tmp 15) :: ac.eval (.tmp 16) :: ac.eval (.tmp 17) :: ac.eval (.tmp 18) :: ac.eval (.tmp 19) :: ac.eval (.tmp 20) :: ac.eval (.tmp 21) :: ac.eval (.tmp 22) :: ac.eval (.tmp 23) :: ac.eval (.tmp 24) :: ac.eval (.tmp 25) :: ac.eval (.tmp 26) :: ac.eval (.tmp 27) :: ac.eval (.tmp 28) :: ac.eval (.tmp 29) :: ac.eval (.tmp 30) :: ac.eval (.tmp 31) :: ac.eval (.tmp 32) :: ac.eval (.tmp 33) :: ac.eval (.tmp 34) :: ac.eval (.tmp 35) :: ac.eval (.tmp 36) :: ac.eval (.tmp 37) :: ac.eval (.tmp 38) :: ac.eval (.tmp 39) :: ac.eval (.tmp 40) :: ac.eval (.tmp 41) :: ac.eval (.tmp 42) :: ac.eval (.tmp 43) :: ac.eval (.tmp 44) :: ac.eval (.tmp 45) :: ac.eval (.tmp 46) :: ac.eval (.tmp 47) :: ac.eval (.tmp 48) :: ac.eval (.tmp 49) :: ac.eval (.tmp 50) :: ac.eval (.tmp 51) :: ac.eval (.tmp 52) :: ac.eval (.tmp 53) :: ac.eval (.tmp 54) :: ac.eval (.tmp 55) :: ac.eval (.tmp 56) :: ac.eval (.tmp 57) :: ac.eval (.tmp 58) :: ([] : List Value)).toArray, []⟩ := (act_lit hz hd).trans rfl
  rw [e0, e1, e2, e34] at e
  clear e0 e1 e2 e34 hz hd
  generalize ac.eval (.tmp 3) = x3 at e
  generalize ac.eval (.tmp 4) = x4 at e
  generalize ac.eval (.tmp 5) = x5 at e
  generalize ac.eval (.tmp 6) = x6 at e
  generalize ac.eval (.tmp 7) = x7 at e
  generalize ac.eval (.tmp 8) = x8 at e
  generalize ac.eval (.tmp 9) = x9 at e
  generalize ac.eval (.tmp 10) = x10 at e
  generalize ac.eval (.tmp 11) = x11 at e
  generalize ac.eval (.tmp 12) = x12 at e
  generalize ac.eval (.tmp 13) = x13 at e
  generalize ac.eval (.tmp 14) = x14 at e
  generalize ac.eval (.tmp 15) = x15 at e
  generalize ac.eval (.tmp 16) = x16 at e
  generalize ac.eval (.tmp 17) = x17 at e
  generalize ac.eval (.tmp 18) = x18 at e
  generalize ac.eval (.tmp 19) = x19 at e
  generalize ac.eval (.tmp 20) = x20 at e
  generalize ac.eval (.tmp 21) = x21 at e
  generalize ac.eval (.tmp 22) = x22 at e
  generalize ac.eval (.tmp 23) = x23 at e
  generalize ac.eval (.tmp 24) = x24 at e
  generalize ac.eval (.tmp 25) = x25 at e
  generalize ac.eval (.tmp 26) = x26 at e
  generalize ac.eval (.tmp 27) = x27 at e
  generalize ac.eval (.tmp 28) = x28 at e
  generalize ac.eval (.tmp 29) = x29 at e
  generalize ac.eval (.tmp 30) = x30 at e
  generalize ac.eval (.tmp 31) = x31 at e
  generalize ac.eval (.tmp 32) = x32 at e
  generalize ac.eval (.tmp 33) = x33 at e
  generalize ac.eval (.tmp 35) = x35 at e
  generalize ac.eval (.tmp 36) = x36 at e
  generalize ac.eval (.tmp 37) = x37 at e
  generalize ac.eval (.tmp 38) = x38 at e
  generalize ac.eval (.tmp 39) = x39 at e
  generalize ac.eval (.tmp 40) = x40 at e
  generalize ac.eval (.tmp 41) = x41 at e
  generalize ac.eval (.tmp 42) = x42 at e
  generalize ac.eval (.tmp 43) = x43 at e
  generalize ac.eval (.tmp 44) = x44 at e
  generalize ac.eval (.tmp 45) = x45 at e
  generalize ac.eval (.tmp 46) = x46 at e
  generalize ac.eval (.tmp 47) = x47 at e
  generalize ac.eval (.tmp 48) = x48 at e
  generalize ac.eval (.tmp 49) = x49 at e
  generalize ac.eval (.tmp 50) = x50 at e
  generalize ac.eval (.tmp 51) = x51 at e
  generalize ac.eval (.tmp 52) = x52 at e
  generalize ac.eval (.tmp 53) = x53 at e
  generalize ac.eval (.tmp 54) = x54 at e
  generalize ac.eval (.tmp 55) = x55 at e
  generalize ac.eval (.tmp 56) = x56 at e
  generalize ac.eval (.tmp 57) = x57 at e
  generalize ac.eval (.tmp 58) = x58 at e
  unfold c69c q69_5 q69_6 q69_7 q69_8
  subst e
  cases t with
  | false =>
    have hok := fun ac' h1 h2 h3 h4 => hok ac' w x0 p0 h1 h2 h3 h4 rfl hp0 hP hI hK
    clear htake hbad hP hI hK
    go_wp2
    exact hok _ rfl rfl rfl rfl
  | true =>
    have ht0 := htake x0 p0 w hp0 hR0 hP hI hK
    cases hr : step x0 p0 with
    | bad q er =>
      rw [hr] at ht0
      have hbad := fun ac' wz h1 => hbad ac' wz q er h1 (by unfold eachM; rw [if_pos rfl, hr]; rfl)
      clear htake hok hr hP hI
      go_wp2_with (go_at_call 70; refine ht0.mono ?_; rintro e w1 ⟨hk1, rfl⟩)
      exact hbad _ _ rfl (hK.trans hk1)
    | ok y0 q0 =>
      rw [hr] at ht0
      have hq0 := (hg x0 p0 y0 q0 hp0 hr).2
      have hRy := hr2 _ _ _ _ hp0 hR0 hr
      have hE0 : eachM s.data.toList step true x0 p0 = eachL s.data.toList step (s.data.toList.length + 1 - q0) y0 q0 := by unfold eachM; rw [if_pos rfl, hr]; rfl
      obtain ⟨E, hE⟩ : ∃ E, eachM s.data.toList step true x0 p0 = E := ⟨_, rfl⟩
      rw [hE] at hok hbad
      rw [hE] at hE0
      clear hr hP hI hE
      go_wp2_with (go_at_call 70; refine ht0.mono ?_; rintro e w1 ⟨hk1, rfl, hP1, hI1⟩; have hK1 := hK.trans hk1; clear hK hk1 ht0)
      go_loopw [39] (fun _ wr => ∃ q y, q ≤ s.size ∧ eachL s.data.toList step (s.data.toList.length + 1 - q) y q = E ∧ Rc y q ∧ PAt wr b s q (k + 1) ∧ Inv y wr ∧ KeepL Ls M w0 wr) (fun _ wr => s.size - atOf wr b)
      case atStart => exact ⟨q0, y0, hq0, hE0.symm, hRy, hP1, hI1, hK1⟩
      case round =>
        obtain ⟨q, y, hq, hqE, hRq, hPq, hIq, hKq⟩ := hrel
        have hnx := next_any b s q (k + 1) hq (by omega) wr hPq
        have hnl := next_le (L := s.data.toList) hq
        have hnge := next_ge (L := s.data.toList) hq
        by_cases h44 : hereP s.data.toList (nextP s.data.toList q) = 44
        · rw [h44] at hnx
          have hlt : nextP s.data.toList q < s.size := here_lt (L := s.data.toList) (by rw [h44]; decide)
          have hn1 : ((nextP s.data.toList q : Nat) : Int) + 1 ≤ 140737488355328 := by omega
          have hRn := hr1 _ _ (nextP s.data.toList q + 1) hRq (by omega)
          have hup : ∀ z, PAt z b s (nextP s.data.toList q) (k + 1) → Upd b wr z → z.cell? ⟨b, 1, none⟩ = some (.int .i64 ((nextP s.data.toList q : Nat) : Int)) ∧ z.frozen? ⟨b, 1, none⟩ = false ∧ Calls Tryd.prog 70 #[.pointer (some ⟨bv, 0, none⟩), .pointer (some ⟨bp, 0, none⟩)] (z.setCell ⟨b, 1, none⟩ (.int .i64 (((nextP s.data.toList q : Nat) : Int) + 1))) (Took Ls M b s k Inv (z.setCell ⟨b, 1, none⟩ (.int .i64 (((nextP s.data.toList q : Nat) : Int) + 1))) (step y (nextP s.data.toList q + 1))) ∧ KeepL Ls M w0 (z.setCell ⟨b, 1, none⟩ (.int .i64 (((nextP s.data.toList q : Nat) : Int) + 1))) := fun z hPz hUz => by
            have hU2 := hUz.setCell 1 (.int .i64 (((nextP s.data.toList q : Nat) : Int) + 1))
            have hP2 := pat_step hPz
            have hK2 := hKq.trans (hU2.keepL hb M)
            exact ⟨hPz.at 1 _ rfl, hPz.frozen 1, htake _ _ _ (by omega) hRn hP2 (hst _ _ _ hIq hU2) hK2, hK2⟩
          cases hrs : step y (nextP s.data.toList q + 1) with
          | bad p2 er2 =>
            have hqE2 := each_bad hq h44 hrs
            rw [hqE] at hqE2
            rw [hrs] at hup
            have hbad := fun ac' wz h1 => hbad ac' wz p2 er2 h1 hqE2
            clear htake hok hqE2 hqE hrs hIq hPq hKq hP1 hI1 hK1 h44
            generalize nextP s.data.toList q = m at *
            go_wp2_with (first
              | (go_at_call 36; refine hnx.mono ?_; rintro e w2 ⟨rfl, hP2, hU2⟩; obtain ⟨c2, f2, ht2, hK2⟩ := hup w2 hP2 hU2; clear hnx hup)
              | (go_at_call 70; refine ht2.mono ?_; rintro e w3 ⟨hk3, rfl⟩))
            exact hbad _ _ rfl (hK2.trans hk3)
          | ok y2 q2 =>
            have hqE2 := each_go hg hq h44 hrs
            have hq2 := hg _ _ _ _ (show nextP s.data.toList q + 1 ≤ s.data.toList.length by omega) hrs
            rw [hqE] at hqE2
            have hRy2 := hr2 _ _ _ _ (by omega) hRn hrs
            rw [hrs] at hup
            have hat := atOf_eq hPq
            clear htake hok hbad hqE hrs hIq hPq hKq hP1 hI1 hK1 h44
            generalize nextP s.data.toList q = m at *
            go_wp2_with (first
              | (go_at_call 36; refine hnx.mono ?_; rintro e w2 ⟨rfl, hP2, hU2⟩; obtain ⟨c2, f2, ht2, hK2⟩ := hup w2 hP2 hU2; clear hnx hup)
              | (go_at_call 70; refine ht2.mono ?_; rintro e w3 ⟨hk3, rfl, hP3, hI3⟩))
            refine ⟨⟨q2, y2, hq2.2, hqE2.symm, hRy2, hP3, hI3, hK2.trans hk3⟩, ?_⟩
            rw [atOf_eq hP3, hat]; omega
        · have hqE2 := each_stop (step := step) (x := y) hq h44
          rw [hqE] at hqE2
          have g44 : (((hereP s.data.toList (nextP s.data.toList q)).toNat : Int) == 44) = false := u8_ne (n := 44) (by decide) h44
          have hok := fun ac' wz h1 h2 h3 h4 h5 h6 => hok ac' wz y (nextP s.data.toList q) h1 h2 h3 h4 hqE2 hnl h5 (hst _ _ _ hIq h6) (hKq.trans (h6.keepL hb M))
          clear htake hbad hqE2 hqE hIq hPq hKq hP1 hI1 hK1 h44
          generalize hereP s.data.toList (nextP s.data.toList q) = cc at *
          go_wp2_with (go_at_call 36; refine hnx.mono ?_; rintro e w2 ⟨rfl, hP2, hU2⟩; clear hnx)
          exact hok _ _ rfl rfl rfl rfl hP2 hU2
set_option maxHeartbeats 4000000 in
set_option maxRecDepth 100000 in
theorem each_any70 {σ : Type} {Inv : σ → World → Prop} {step : σ → Nat → Res σ} {b k p M bv bp : Nat} {s : ByteArray} {Ls : List Nat} {c : UInt8} {w : World} (hg : Goes s.data.toList step) (hc : c ≠ 0) {x0 : σ} {Rc : σ → Nat → Prop} (hr1 : ∀ x q q', Rc x q → q ≤ q' → Rc x q') (hr2 : ∀ x q y q', q ≤ s.size → Rc x q → step x q = .ok y q' → Rc y q') (hR0 : Rc x0 p) (h : PAt w b s p k) (hp : p < s.size) (hk : k < 16) (hI : Inv x0 w) (hs : s.size < 140737488355328) (hst : ∀ x y z, Inv x y → Upd b y z → Inv x z) (hb : b ∈ Ls)
    (htake : ∀ x q y, q ≤ s.size → Rc x q → PAt y b s q (k + 1) → Inv x y → KeepL Ls M w y → Calls Tryd.prog 70 #[.pointer (some ⟨bv, 0, none⟩), .pointer (some ⟨bp, 0, none⟩)] y (Took Ls M b s k Inv y (step x q))) :
    Calls Tryd.prog 69 #[.pointer (some ⟨b, 0, none⟩), .string ⟨#[c]⟩, .func (.func 70) #[] #[.pointer (some ⟨bv, 0, none⟩), .pointer (some ⟨bp, 0, none⟩)]] w (fun e z => KeepL Ls M w z ∧ match eachP s.data.toList c step x0 p with
      | .ok x q => e = .returned (.tuple #[]) ∧ PAt z b s q k ∧ Inv x z
      | .bad q er => e = .panicked (faultV q er)) := by
  have hsl : s.data.toList.length = s.size := rfl
  have c2 : w.cell? ⟨b, 2, none⟩ = some (.int .i64 (k : Int)) := h.at 2 _ rfl
  have f2 : w.frozen? ⟨b, 2, none⟩ = false := h.frozen 2
  have g16 : ((k : Int) == 16) = false := by simp; omega
  have hk1 : (k : Int) + 1 ≤ 17 := by omega
  have hU1 := (Upd.refl b w).setCell 2 (.int .i64 ((k : Int) + 1))
  have hP1 : PAt (w.setCell ⟨b, 2, none⟩ (.int .i64 ((k : Int) + 1))) b s p (k + 1) := h.set 2 _
  have hup : ∀ z, Gr (w.setCell ⟨b, 2, none⟩ (.int .i64 ((k : Int) + 1))) z → z.cell? ⟨b, 1, none⟩ = some (.int .i64 (p : Int)) ∧ z.frozen? ⟨b, 1, none⟩ = false ∧ PAt (z.setCell ⟨b, 1, none⟩ (.int .i64 ((p : Int) + 1))) b s (p + 1) (k + 1) ∧ Upd b w (z.setCell ⟨b, 1, none⟩ (.int .i64 ((p : Int) + 1))) := fun z hz => ⟨(hP1.gr hz).at 1 _ rfl, (hP1.gr hz).frozen 1, pat_step (hP1.gr hz), (hU1.trans (gr_upd hz)).setCell 1 _⟩
  have hup := hup _ (Gr.refl _)
  obtain ⟨c1, f1, hP2, hU2⟩ := hup
  have hp64 : (p : Int) + 1 ≤ 140737488355328 := by omega
  have hp1 : p + 1 ≤ s.size := hp
  obtain ⟨m, hm⟩ : ∃ m, nextP s.data.toList (p + 1) = m := ⟨_, rfl⟩
  have hml : m ≤ s.size := hm ▸ next_le (L := s.data.toList) hp1
  have hpm : p + 1 ≤ m := hm ▸ next_ge (L := s.data.toList) hp1
  have hRm := hr1 _ _ m hR0 (by omega)
  have hIn := hst x0 w _ hI hU2
  obtain ⟨r, hr⟩ : ∃ r, eachP s.data.toList c step x0 p = r := ⟨_, rfl⟩
  have hr' : (eachM s.data.toList step (hereP s.data.toList m != c) x0 m).bind (fun y q => (passP s.data.toList [c] q).bind fun _ q' => .ok y q') = r := by
    rw [← hr]
    unfold eachP eachM
    rw [hm]
    by_cases q : hereP s.data.toList m = c
    · rw [if_pos q]; simp [q]
    · rw [if_neg q]; simp [q]
  rw [hr]
  clear hr h hI
  go_enter Tryd.func69, Tryd.ntmps69
  go_wp2_with fail
  refine r69_4 rfl hP2 hp1 (by omega) rfl rfl fun ac wz hA h34 hP4 hU4 => ?_
  rw [hm] at h34 hP4
  have hU5 := hU2.trans hU4
  rename_i K2 hK2 K1 hK1
  refine hK1 _ _ (each_mid70 (x0 := x0) (p0 := m) (hereP s.data.toList m != c) hg hA.size hA.defers ((hA.old 0 (by decide)).trans rfl) ((hA.old 1 (by decide)).trans rfl) ((hA.old 2 (by decide)).trans rfl) h34 hr1 hr2 hRm hP4 hml (hst _ _ _ hIn hU4) hs hst (hU5.keepL hb M) hb htake (fun ac' wz' x q a1 a2 a3 a4 hE hq hPq hIq hKq => ?_) (fun ac' wz' q er a2 hE hKq => ?_))
  · rw [hE] at hr'
    refine hK2 _ _ (each_rest a1 a2 a3 a4 hPq hq (by omega) (by omega) hc (fun q' z hq' hPz hUz => ?_) (fun q' er z hq' hUz => ?_))
    · have hr' : (passP s.data.toList [c] q).bind (fun _ q' => .ok x q') = r := hr'
      rw [hq'] at hr'
      subst hr'
      exact ⟨hKq.trans (hUz.keepL hb M), rfl, hPz, hst _ _ _ hIq hUz⟩
    · have hr' : (passP s.data.toList [c] q).bind (fun _ q' => .ok x q') = r := hr'
      rw [hq'] at hr'
      subst hr'
      exact ⟨hKq.trans (hUz.keepL hb M), rfl⟩
  · rw [hE] at hr'
    subst hr'
    exact ⟨a2, hKq, rfl⟩
set_option maxHeartbeats 4000000 in
set_option maxRecDepth 100000 in
theorem each_mid71 {σ : Type} {Inv : σ → World → Prop} {step : σ → Nat → Res σ} {b k M bv bp bm : Nat} {s : ByteArray} {Ls : List Nat} {c : UInt8} (t : Bool) {Q : Exit → Act → World → Prop} {ac : Act} {w0 w : World} (hg : Goes s.data.toList step) (hz : ac.tmps.size = 59) (hd : ac.defers = []) (e0 : ac.eval (.tmp 0) = .pointer (some ⟨b, 0, none⟩)) (e1 : ac.eval (.tmp 1) = .string ⟨#[c]⟩) (e2 : ac.eval (.tmp 2) = .func (.func 71) #[] #[.pointer (some ⟨bv, 0, none⟩), .pointer (some ⟨bp, 0, none⟩), .pointer (some ⟨bm, 0, none⟩)]) (e34 : ac.eval (.tmp 34) = .bool t)
    {p0 : Nat} {x0 : σ} {Rc : σ → Nat → Prop} (hr1 : ∀ x q q', Rc x q → q ≤ q' → Rc x q') (hr2 : ∀ x q y q', q ≤ s.size → Rc x q → step x q = .ok y q' → Rc y q') (hR0 : Rc x0 p0) (hP : PAt w b s p0 (k + 1)) (hp0 : p0 ≤ s.size) (hI : Inv x0 w) (hs : s.size < 140737488355328) (hst : ∀ x y z, Inv x y → Upd b y z → Inv x z) (hK : KeepL Ls M w0 w) (hb : b ∈ Ls)
    (htake : ∀ x q y, q ≤ s.size → Rc x q → PAt y b s q (k + 1) → Inv x y → KeepL Ls M w0 y → Calls Tryd.prog 71 #[.pointer (some ⟨bv, 0, none⟩), .pointer (some ⟨bp, 0, none⟩), .pointer (some ⟨bm, 0, none⟩)] y (Took Ls M b s k Inv y (step x q)))
    (hok : ∀ ac' wz x q, ac'.tmps.size = 59 → ac'.defers = [] → ac'.eval (.tmp 0) = .pointer (some ⟨b, 0, none⟩) → ac'.eval (.tmp 1) = .string ⟨#[c]⟩ → eachM s.data.toList step t x0 p0 = .ok x q → q ≤ s.size → PAt wz b s q (k + 1) → Inv x wz → KeepL Ls M w0 wz → Q .normal ac' wz)
    (hbad : ∀ ac' wz q er, ac'.defers = [] → eachM s.data.toList step t x0 p0 = .bad q er → KeepL Ls M w0 wz → Q (.panic (faultV q er)) ac' wz) : c69c.wp Tryd.prog Q ac w := by
  have hsl : s.data.toList.length = s.size := rfl
  have e : ac = ⟨(ac.eval (.tmp 0) :: ac.eval (.tmp 1) :: ac.eval (.tmp 2) :: ac.eval (.tmp 3) :: ac.eval (.tmp 4) :: ac.eval (.tmp 5) :: ac.eval (.tmp 6) :: ac.eval (.tmp 7) :: ac.eval (.tmp 8) :: ac.eval (.tmp 9) :: ac.eval (.tmp 10) :: ac.eval (.tmp 11) :: ac.eval (.tmp 12) :: ac.eval (.tmp 13) :: ac.eval (.tmp 14) :: ac.eval (.tmp 15) :: ac.eval (.tmp 16) :: ac.eval (.tmp 17) :: ac.eval (.tmp 18) :: ac.eval (.tmp 19) :: ac.eval (.tmp 20) :: ac.eval (.tmp 21) :: ac.eval (.tmp 22) :: ac.eval (.tmp 23) :: ac.eval (.tmp 24) :: ac.eval (.tmp 25) :: ac.eval (.tmp 26) :: ac.eval (.tmp 27) :: ac.eval (.tmp 28) :: ac.eval (.tmp 29) :: ac.eval (.tmp 30) :: ac.eval (.tmp 31) :: ac.eval (.tmp 32) :: ac.eval (.tmp 33) :: ac.eval (.tmp 34) :: ac.eval (.tmp 35) :: ac.eval (.tmp 36) :: ac.eval (.tmp 37) :: ac.eval (.tmp 38) :: ac.eval (.tmp 39) :: ac.eval (.tmp 40) :: ac.eval (.tmp 41) :: ac.eval (.tmp 42) :: ac.eval (.tmp 43) :: ac.eval (.tmp 44) :: ac.eval (.tmp 45) :: ac.eval (.tmp 46) :: ac.eval (.tmp 47) :: ac.eval (.tmp 48) :: ac.eval (.tmp 49) :: ac.eval (.tmp 50) :: ac.eval (.tmp 51) :: ac.eval (.tmp 52) :: ac.eval (.tmp 53) :: ac.eval (.tmp 54) :: ac.eval (.tmp 55) :: ac.eval (.tmp 56) :: ac.eval (.tmp 57) :: ac.eval (.tmp 58) :: ([] : List Value)).toArray, []⟩ := (act_lit hz hd).trans rfl
  rw [e0, e1, e2, e34] at e
  clear e0 e1 e2 e34 hz hd
  generalize ac.eval (.tmp 3) = x3 at e
  generalize ac.eval (.tmp 4) = x4 at e
  generalize ac.eval (.tmp 5) = x5 at e
  generalize ac.eval (.tmp 6) = x6 at e
  generalize ac.eval (.tmp 7) = x7 at e
  generalize ac.eval (.tmp 8) = x8 at e
  generalize ac.eval (.tmp 9) = x9 at e
  generalize ac.eval (.tmp 10) = x10 at e
  generalize ac.eval (.tmp 11) = x11 at e
  generalize ac.eval (.tmp 12) = x12 at e
  generalize ac.eval (.tmp 13) = x13 at e
  generalize ac.eval (.tmp 14) = x14 at e
  generalize ac.eval (.tmp 15) = x15 at e
  generalize ac.eval (.tmp 16) = x16 at e
  generalize ac.eval (.tmp 17) = x17 at e
  generalize ac.eval (.tmp 18) = x18 at e
  generalize ac.eval (.tmp 19) = x19 at e
  generalize ac.eval (.tmp 20) = x20 at e
  generalize ac.eval (.tmp 21) = x21 at e
  generalize ac.eval (.tmp 22) = x22 at e
  generalize ac.eval (.tmp 23) = x23 at e
  generalize ac.eval (.tmp 24) = x24 at e
  generalize ac.eval (.tmp 25) = x25 at e
  generalize ac.eval (.tmp 26) = x26 at e
  generalize ac.eval (.tmp 27) = x27 at e
  generalize ac.eval (.tmp 28) = x28 at e
  generalize ac.eval (.tmp 29) = x29 at e
  generalize ac.eval (.tmp 30) = x30 at e
  generalize ac.eval (.tmp 31) = x31 at e
  generalize ac.eval (.tmp 32) = x32 at e
  generalize ac.eval (.tmp 33) = x33 at e
  generalize ac.eval (.tmp 35) = x35 at e
  generalize ac.eval (.tmp 36) = x36 at e
  generalize ac.eval (.tmp 37) = x37 at e
  generalize ac.eval (.tmp 38) = x38 at e
  generalize ac.eval (.tmp 39) = x39 at e
  generalize ac.eval (.tmp 40) = x40 at e
  generalize ac.eval (.tmp 41) = x41 at e
  generalize ac.eval (.tmp 42) = x42 at e
  generalize ac.eval (.tmp 43) = x43 at e
  generalize ac.eval (.tmp 44) = x44 at e
  generalize ac.eval (.tmp 45) = x45 at e
  generalize ac.eval (.tmp 46) = x46 at e
  generalize ac.eval (.tmp 47) = x47 at e
  generalize ac.eval (.tmp 48) = x48 at e
  generalize ac.eval (.tmp 49) = x49 at e
  generalize ac.eval (.tmp 50) = x50 at e
  generalize ac.eval (.tmp 51) = x51 at e
  generalize ac.eval (.tmp 52) = x52 at e
  generalize ac.eval (.tmp 53) = x53 at e
  generalize ac.eval (.tmp 54) = x54 at e
  generalize ac.eval (.tmp 55) = x55 at e
  generalize ac.eval (.tmp 56) = x56 at e
  generalize ac.eval (.tmp 57) = x57 at e
  generalize ac.eval (.tmp 58) = x58 at e
  unfold c69c q69_5 q69_6 q69_7 q69_8
  subst e
  cases t with
  | false =>
    have hok := fun ac' h1 h2 h3 h4 => hok ac' w x0 p0 h1 h2 h3 h4 rfl hp0 hP hI hK
    clear htake hbad hP hI hK
    go_wp2
    exact hok _ rfl rfl rfl rfl
  | true =>
    have ht0 := htake x0 p0 w hp0 hR0 hP hI hK
    cases hr : step x0 p0 with
    | bad q er =>
      rw [hr] at ht0
      have hbad := fun ac' wz h1 => hbad ac' wz q er h1 (by unfold eachM; rw [if_pos rfl, hr]; rfl)
      clear htake hok hr hP hI
      go_wp2_with (go_at_call 71; refine ht0.mono ?_; rintro e w1 ⟨hk1, rfl⟩)
      exact hbad _ _ rfl (hK.trans hk1)
    | ok y0 q0 =>
      rw [hr] at ht0
      have hq0 := (hg x0 p0 y0 q0 hp0 hr).2
      have hRy := hr2 _ _ _ _ hp0 hR0 hr
      have hE0 : eachM s.data.toList step true x0 p0 = eachL s.data.toList step (s.data.toList.length + 1 - q0) y0 q0 := by unfold eachM; rw [if_pos rfl, hr]; rfl
      obtain ⟨E, hE⟩ : ∃ E, eachM s.data.toList step true x0 p0 = E := ⟨_, rfl⟩
      rw [hE] at hok hbad
      rw [hE] at hE0
      clear hr hP hI hE
      go_wp2_with (go_at_call 71; refine ht0.mono ?_; rintro e w1 ⟨hk1, rfl, hP1, hI1⟩; have hK1 := hK.trans hk1; clear hK hk1 ht0)
      go_loopw [39] (fun _ wr => ∃ q y, q ≤ s.size ∧ eachL s.data.toList step (s.data.toList.length + 1 - q) y q = E ∧ Rc y q ∧ PAt wr b s q (k + 1) ∧ Inv y wr ∧ KeepL Ls M w0 wr) (fun _ wr => s.size - atOf wr b)
      case atStart => exact ⟨q0, y0, hq0, hE0.symm, hRy, hP1, hI1, hK1⟩
      case round =>
        obtain ⟨q, y, hq, hqE, hRq, hPq, hIq, hKq⟩ := hrel
        have hnx := next_any b s q (k + 1) hq (by omega) wr hPq
        have hnl := next_le (L := s.data.toList) hq
        have hnge := next_ge (L := s.data.toList) hq
        by_cases h44 : hereP s.data.toList (nextP s.data.toList q) = 44
        · rw [h44] at hnx
          have hlt : nextP s.data.toList q < s.size := here_lt (L := s.data.toList) (by rw [h44]; decide)
          have hn1 : ((nextP s.data.toList q : Nat) : Int) + 1 ≤ 140737488355328 := by omega
          have hRn := hr1 _ _ (nextP s.data.toList q + 1) hRq (by omega)
          have hup : ∀ z, PAt z b s (nextP s.data.toList q) (k + 1) → Upd b wr z → z.cell? ⟨b, 1, none⟩ = some (.int .i64 ((nextP s.data.toList q : Nat) : Int)) ∧ z.frozen? ⟨b, 1, none⟩ = false ∧ Calls Tryd.prog 71 #[.pointer (some ⟨bv, 0, none⟩), .pointer (some ⟨bp, 0, none⟩), .pointer (some ⟨bm, 0, none⟩)] (z.setCell ⟨b, 1, none⟩ (.int .i64 (((nextP s.data.toList q : Nat) : Int) + 1))) (Took Ls M b s k Inv (z.setCell ⟨b, 1, none⟩ (.int .i64 (((nextP s.data.toList q : Nat) : Int) + 1))) (step y (nextP s.data.toList q + 1))) ∧ KeepL Ls M w0 (z.setCell ⟨b, 1, none⟩ (.int .i64 (((nextP s.data.toList q : Nat) : Int) + 1))) := fun z hPz hUz => by
            have hU2 := hUz.setCell 1 (.int .i64 (((nextP s.data.toList q : Nat) : Int) + 1))
            have hP2 := pat_step hPz
            have hK2 := hKq.trans (hU2.keepL hb M)
            exact ⟨hPz.at 1 _ rfl, hPz.frozen 1, htake _ _ _ (by omega) hRn hP2 (hst _ _ _ hIq hU2) hK2, hK2⟩
          cases hrs : step y (nextP s.data.toList q + 1) with
          | bad p2 er2 =>
            have hqE2 := each_bad hq h44 hrs
            rw [hqE] at hqE2
            rw [hrs] at hup
            have hbad := fun ac' wz h1 => hbad ac' wz p2 er2 h1 hqE2
            clear htake hok hqE2 hqE hrs hIq hPq hKq hP1 hI1 hK1 h44
            generalize nextP s.data.toList q = m at *
            go_wp2_with (first
              | (go_at_call 36; refine hnx.mono ?_; rintro e w2 ⟨rfl, hP2, hU2⟩; obtain ⟨c2, f2, ht2, hK2⟩ := hup w2 hP2 hU2; clear hnx hup)
              | (go_at_call 71; refine ht2.mono ?_; rintro e w3 ⟨hk3, rfl⟩))
            exact hbad _ _ rfl (hK2.trans hk3)
          | ok y2 q2 =>
            have hqE2 := each_go hg hq h44 hrs
            have hq2 := hg _ _ _ _ (show nextP s.data.toList q + 1 ≤ s.data.toList.length by omega) hrs
            rw [hqE] at hqE2
            have hRy2 := hr2 _ _ _ _ (by omega) hRn hrs
            rw [hrs] at hup
            have hat := atOf_eq hPq
            clear htake hok hbad hqE hrs hIq hPq hKq hP1 hI1 hK1 h44
            generalize nextP s.data.toList q = m at *
            go_wp2_with (first
              | (go_at_call 36; refine hnx.mono ?_; rintro e w2 ⟨rfl, hP2, hU2⟩; obtain ⟨c2, f2, ht2, hK2⟩ := hup w2 hP2 hU2; clear hnx hup)
              | (go_at_call 71; refine ht2.mono ?_; rintro e w3 ⟨hk3, rfl, hP3, hI3⟩))
            refine ⟨⟨q2, y2, hq2.2, hqE2.symm, hRy2, hP3, hI3, hK2.trans hk3⟩, ?_⟩
            rw [atOf_eq hP3, hat]; omega
        · have hqE2 := each_stop (step := step) (x := y) hq h44
          rw [hqE] at hqE2
          have g44 : (((hereP s.data.toList (nextP s.data.toList q)).toNat : Int) == 44) = false := u8_ne (n := 44) (by decide) h44
          have hok := fun ac' wz h1 h2 h3 h4 h5 h6 => hok ac' wz y (nextP s.data.toList q) h1 h2 h3 h4 hqE2 hnl h5 (hst _ _ _ hIq h6) (hKq.trans (h6.keepL hb M))
          clear htake hbad hqE2 hqE hIq hPq hKq hP1 hI1 hK1 h44
          generalize hereP s.data.toList (nextP s.data.toList q) = cc at *
          go_wp2_with (go_at_call 36; refine hnx.mono ?_; rintro e w2 ⟨rfl, hP2, hU2⟩; clear hnx)
          exact hok _ _ rfl rfl rfl rfl hP2 hU2
set_option maxHeartbeats 4000000 in
set_option maxRecDepth 100000 in
theorem each_any71 {σ : Type} {Inv : σ → World → Prop} {step : σ → Nat → Res σ} {b k p M bv bp bm : Nat} {s : ByteArray} {Ls : List Nat} {c : UInt8} {w : World} (hg : Goes s.data.toList step) (hc : c ≠ 0) {x0 : σ} {Rc : σ → Nat → Prop} (hr1 : ∀ x q q', Rc x q → q ≤ q' → Rc x q') (hr2 : ∀ x q y q', q ≤ s.size → Rc x q → step x q = .ok y q' → Rc y q') (hR0 : Rc x0 p) (h : PAt w b s p k) (hp : p < s.size) (hk : k < 16) (hI : Inv x0 w) (hs : s.size < 140737488355328) (hst : ∀ x y z, Inv x y → Upd b y z → Inv x z) (hb : b ∈ Ls)
    (htake : ∀ x q y, q ≤ s.size → Rc x q → PAt y b s q (k + 1) → Inv x y → KeepL Ls M w y → Calls Tryd.prog 71 #[.pointer (some ⟨bv, 0, none⟩), .pointer (some ⟨bp, 0, none⟩), .pointer (some ⟨bm, 0, none⟩)] y (Took Ls M b s k Inv y (step x q))) :
    Calls Tryd.prog 69 #[.pointer (some ⟨b, 0, none⟩), .string ⟨#[c]⟩, .func (.func 71) #[] #[.pointer (some ⟨bv, 0, none⟩), .pointer (some ⟨bp, 0, none⟩), .pointer (some ⟨bm, 0, none⟩)]] w (fun e z => KeepL Ls M w z ∧ match eachP s.data.toList c step x0 p with
      | .ok x q => e = .returned (.tuple #[]) ∧ PAt z b s q k ∧ Inv x z
      | .bad q er => e = .panicked (faultV q er)) := by
  have hsl : s.data.toList.length = s.size := rfl
  have c2 : w.cell? ⟨b, 2, none⟩ = some (.int .i64 (k : Int)) := h.at 2 _ rfl
  have f2 : w.frozen? ⟨b, 2, none⟩ = false := h.frozen 2
  have g16 : ((k : Int) == 16) = false := by simp; omega
  have hk1 : (k : Int) + 1 ≤ 17 := by omega
  have hU1 := (Upd.refl b w).setCell 2 (.int .i64 ((k : Int) + 1))
  have hP1 : PAt (w.setCell ⟨b, 2, none⟩ (.int .i64 ((k : Int) + 1))) b s p (k + 1) := h.set 2 _
  have hup : ∀ z, Gr (w.setCell ⟨b, 2, none⟩ (.int .i64 ((k : Int) + 1))) z → z.cell? ⟨b, 1, none⟩ = some (.int .i64 (p : Int)) ∧ z.frozen? ⟨b, 1, none⟩ = false ∧ PAt (z.setCell ⟨b, 1, none⟩ (.int .i64 ((p : Int) + 1))) b s (p + 1) (k + 1) ∧ Upd b w (z.setCell ⟨b, 1, none⟩ (.int .i64 ((p : Int) + 1))) := fun z hz => ⟨(hP1.gr hz).at 1 _ rfl, (hP1.gr hz).frozen 1, pat_step (hP1.gr hz), (hU1.trans (gr_upd hz)).setCell 1 _⟩
  have hup := hup _ (Gr.refl _)
  obtain ⟨c1, f1, hP2, hU2⟩ := hup
  have hp64 : (p : Int) + 1 ≤ 140737488355328 := by omega
  have hp1 : p + 1 ≤ s.size := hp
  obtain ⟨m, hm⟩ : ∃ m, nextP s.data.toList (p + 1) = m := ⟨_, rfl⟩
  have hml : m ≤ s.size := hm ▸ next_le (L := s.data.toList) hp1
  have hpm : p + 1 ≤ m := hm ▸ next_ge (L := s.data.toList) hp1
  have hRm := hr1 _ _ m hR0 (by omega)
  have hIn := hst x0 w _ hI hU2
  obtain ⟨r, hr⟩ : ∃ r, eachP s.data.toList c step x0 p = r := ⟨_, rfl⟩
  have hr' : (eachM s.data.toList step (hereP s.data.toList m != c) x0 m).bind (fun y q => (passP s.data.toList [c] q).bind fun _ q' => .ok y q') = r := by
    rw [← hr]
    unfold eachP eachM
    rw [hm]
    by_cases q : hereP s.data.toList m = c
    · rw [if_pos q]; simp [q]
    · rw [if_neg q]; simp [q]
  rw [hr]
  clear hr h hI
  go_enter Tryd.func69, Tryd.ntmps69
  go_wp2_with fail
  refine r69_4 rfl hP2 hp1 (by omega) rfl rfl fun ac wz hA h34 hP4 hU4 => ?_
  rw [hm] at h34 hP4
  have hU5 := hU2.trans hU4
  rename_i K2 hK2 K1 hK1
  refine hK1 _ _ (each_mid71 (x0 := x0) (p0 := m) (hereP s.data.toList m != c) hg hA.size hA.defers ((hA.old 0 (by decide)).trans rfl) ((hA.old 1 (by decide)).trans rfl) ((hA.old 2 (by decide)).trans rfl) h34 hr1 hr2 hRm hP4 hml (hst _ _ _ hIn hU4) hs hst (hU5.keepL hb M) hb htake (fun ac' wz' x q a1 a2 a3 a4 hE hq hPq hIq hKq => ?_) (fun ac' wz' q er a2 hE hKq => ?_))
  · rw [hE] at hr'
    refine hK2 _ _ (each_rest a1 a2 a3 a4 hPq hq (by omega) (by omega) hc (fun q' z hq' hPz hUz => ?_) (fun q' er z hq' hUz => ?_))
    · have hr' : (passP s.data.toList [c] q).bind (fun _ q' => .ok x q') = r := hr'
      rw [hq'] at hr'
      subst hr'
      exact ⟨hKq.trans (hUz.keepL hb M), rfl, hPz, hst _ _ _ hIq hUz⟩
    · have hr' : (passP s.data.toList [c] q).bind (fun _ q' => .ok x q') = r := hr'
      rw [hq'] at hr'
      subst hr'
      exact ⟨hKq.trans (hUz.keepL hb M), rfl⟩
  · rw [hE] at hr'
    subst hr'
    exact ⟨a2, hKq, rfl⟩
end Go.Proofs.YtogippkapadolaaDoor

/- Lists and objects of the parser. -/
namespace Go.Proofs.YtogippkapadolaaDoor
open Go.RowKit

theorem own_val {w : World} {B : Nat} {e : TypeId} {z : Nat} {v : Value} {n : Nat} {xs : List Value} (h : w.ownsRow B e z v n xs) : ∃ a c, v = .slice a n c ∧ Lies w (fun k => B ≤ k) a xs := by
  rcases h.2 with ⟨rfl, h0⟩ | ⟨g, cap, cur, rfl, hb, hg, hc, hm, hz, ht⟩
  · refine ⟨none, 0, by rw [h0], .inl (List.eq_nil_of_length_eq_zero (by rw [h.1, h0]; simp))⟩
  · refine ⟨_, _, rfl, .inr ⟨g, 0, rfl, hb, (Array.getElem?_eq_some_iff.1 hg).1, fun j v hv => ?_⟩⟩
    rw [Nat.zero_add, cell_of_row w g j cur e (0, 0) hg, ← hv, ← ht]
    have hj : j < n * z := by
      have := (List.getElem?_eq_some_iff.1 hv).1
      rw [h.1] at this; exact this
    rw [List.getElem?_take_of_lt hj]; simp
theorem one_box (kd : Int) (u nv : Value) (hu : u.oneCell' = true) (hn : nv.oneCell' = true) : ∀ v ∈ boxV kd u nv, v.oneCell' = true := by
  intro v hv
  simp only [boxV, List.mem_cons, List.not_mem_nil, or_false] at hv
  rcases hv with rfl | rfl | rfl | rfl | rfl | rfl <;> first | rfl | assumption
/-- What was made in a box is a value. -/
theorem VIn.jat {M bv : Nat} {kd : Int} {l : List J} {names : List (List UInt8)} {w : World} {u nv : Value} {es : List (List Value)} (h : VIn M bv kd l names w u nv es) : JAt w (fun k => M ≤ k) (.mk kd false 0 [] l names) (.agg (boxV kd u nv).toArray) := by
  obtain ⟨la, lc, e1, l1⟩ := own_val h.own
  obtain ⟨na, nc, e2, l2⟩ := own_val h.nown
  have := JAt.mk (w := w) (S := fun k => M ≤ k) kd false 0 [] l names la na lc nc es h.len h.six (fun i x c h1 h2 => (h.each i x c h1 h2).mono fun k h3 _ => ⟨h3.1, rfl⟩) l1 l2
  subst e1 e2
  exact this
theorem vin_new {w : World} {M bv : Nat} {kd : Int} (h : Holds w bv (boxV kd (.slice none 0 0) (.slice none 0 0)) 27) : VIn M bv kd [] [] w (.slice none 0 0) (.slice none 0 0) [] :=
  ⟨h, ⟨rfl, .inl ⟨rfl, rfl⟩⟩, ⟨rfl, .inl ⟨rfl, rfl⟩⟩, fun k hk => (by cases hk), rfl, fun c hc => (by cases hc), fun i x c h1 _ => (by simp at h1)⟩
theorem own_list {N b : Nat} (h : b < N) (hb : 2 < b) : Own (N + 3) b (N + 2) N := ⟨by omega, by omega, by omega, by omega, by omega, by omega, hb, by omega⟩
theorem stepL_goes {L : List UInt8} {f : Nat → Res J} (hf : ∀ p j q, p ≤ L.length → f p = .ok j q → p < q ∧ q ≤ L.length) : Goes L (stepL f) := fun x q y q' hq h => by
  unfold stepL at h
  cases hr : f q with
  | bad a b => rw [hr] at h; cases h
  | ok j q1 =>
    rw [hr] at h
    have h : (Res.ok (x ++ [j]) q1 : Res (List J)) = .ok y q' := h
    cases h
    exact hf _ _ _ hq hr
set_option maxHeartbeats 1000000 in
set_option maxRecDepth 100000 in
theorem list_any {b p k : Nat} {s : ByteArray} {f : Nat → Res J} {w : World} (hk : k < 16) (hp : p < s.size) (hs : s.size ≤ 1099511627775) (h : PAt w b s p k) (hG : Glob w) (hb : 2 < b) (hv : ValOk b s (k + 1) f) (hf : ∀ p j q, p ≤ s.data.toList.length → f p = .ok j q → p < q ∧ q ≤ s.data.toList.length) :
    Calls Tryd.prog 57 #[.pointer (some ⟨b, 0, none⟩)] w (Done b s k w (listP s.data.toList (some f) p) (jsV w)) := by
  have hmf : ∀ (fn : Fn) (first cap : Array Value) (w : World), (Instr.makeFunc fn first cap).run Tryd.prog w = .ok (.func fn first cap) w := fun _ _ _ _ => rfl
  obtain ⟨N, hN⟩ : ∃ N, w.heap.size = N := ⟨_, rfl⟩
  have hbN : b < N := hN ▸ h.lt
  have ho := own_list hbN hb
  obtain ⟨W, hW⟩ : ∃ W, ((w.alloc (.cells #[.pointer (some ⟨b, 0, none⟩)] 45)).alloc (.cells zeroJ.toArray 27)).alloc (.cells (boxV 4 (.slice none 0 0) (.slice none 0 0)).toArray 27) = W := ⟨_, rfl⟩
  have hg : Gr w W := by rw [← hW]; exact ((Gr.alloc _ _).trans (Gr.alloc _ _)).trans (Gr.alloc _ _)
  have hsz : W.heap.size = N + 3 := by rw [← hW]; simp [hN]
  have hbv : Holds W (N + 2) (boxV 4 (.slice none 0 0) (.slice none 0 0)) 27 := by
    have := heap_alloc_new ((w.alloc (.cells #[.pointer (some ⟨b, 0, none⟩)] 45)).alloc (.cells zeroJ.toArray 27)) (.cells (boxV 4 (.slice none 0 0) (.slice none 0 0)).toArray 27)
    rw [hW] at this
    simpa [hN, Holds] using this
  have hbp : Holds W N [.pointer (some ⟨b, 0, none⟩)] 45 := by
    have h1 : Holds (w.alloc (.cells #[.pointer (some ⟨b, 0, none⟩)] 45)) N [.pointer (some ⟨b, 0, none⟩)] 45 := by
      have := heap_alloc_new w (.cells #[.pointer (some ⟨b, 0, none⟩)] 45)
      rw [hN] at this; exact this
    rw [← hW]
    exact (h1.alloc _).alloc _
  have hres : Holds W (N + 1) zeroJ 27 := by
    have h1 : Holds ((w.alloc (.cells #[.pointer (some ⟨b, 0, none⟩)] 45)).alloc (.cells zeroJ.toArray 27)) (N + 1) zeroJ 27 := by
      have := heap_alloc_new (w.alloc (.cells #[.pointer (some ⟨b, 0, none⟩)] 45)) (.cells zeroJ.toArray 27)
      simpa [hN, Holds] using this
    rw [← hW]
    exact h1.alloc _
  have hPW := h.gr hg
  have hGW := hG.gr hg
  have hInv : InvL (N + 3) (N + 2) N b [] W := ⟨⟨_, _, _, vin_new hbv⟩, hbp, by omega⟩
  have hE := each_any70 (b := b) (k := k) (p := p) (M := N + 3) (bv := N + 2) (bp := N) (s := s) (Ls := [b, N + 2]) (c := 93) (w := W) (stepL_goes hf) (by decide) (x0 := ([] : List J)) (Rc := fun l q => l.length ≤ q) (fun x q q' h1 h2 => Nat.le_trans h1 h2) (fun x q y q' hq h1 h2 => by
      unfold stepL at h2
      cases hr : f q with
      | bad a b => rw [hr] at h2; cases h2
      | ok j q1 =>
        rw [hr] at h2
        have h2 : (Res.ok (x ++ [j]) q1 : Res (List J)) = .ok y q' := h2
        cases h2
        have := hf _ _ _ hq hr
        simp; omega) (Nat.zero_le _) hPW hp hk hInv (by omega) (fun x y z h1 h2 => h1.upd ho h2) (by simp) (fun x q y h1 h2 h3 h4 h5 => take70 ho hv h1 hs h2 h3 h4 (hGW.same fun i h6 h7 => h5.block i h7 (by omega) (by simp; omega)))
  have hup : ∀ z z', KeepL [b, N + 2] (N + 3) W z → (∀ i, i < N → z'.heap[i]? = z.heap[i]?) → z'.os = z.os → z'.tape = z.tape → z'.output = z.output → z.heap.size ≤ z'.heap.size → Upd b w z' := fun z z' hk h1 h2 h3 h4 h5 => ⟨h2.trans (hk.os.trans hg.os), h3.trans (hk.tape.trans hg.tape), h4.trans (hk.output.trans hg.output), Nat.le_trans hg.size (Nat.le_trans hk.size h5), fun i h6 h7 => (h1 i (by omega)).trans ((hk.block i (Nat.lt_of_lt_of_le h6 hg.size) (by omega) (by simp; omega)).trans (hg.block i h6))⟩
  show Calls _ _ _ _ (Done b s k w ((eachP s.data.toList 93 (stepL f) [] p).bind fun l q => .ok (.mk 4 false 0 [] l []) q) (jsV w))
  cases hr : eachP s.data.toList 93 (stepL f) [] p with
  | bad q er =>
    rw [hr] at hE
    have hE : Calls Tryd.prog 69 #[.pointer (some ⟨b, 0, none⟩), .string ⟨#[93]⟩, .func (.func 70) #[] #[.pointer (some ⟨N + 2, 0, none⟩), .pointer (some ⟨N, 0, none⟩)]] W (fun e z => KeepL [b, N + 2] (N + 3) W z ∧ e = .panicked (faultV q er)) := hE
    have hfin : ∀ z, KeepL [b, N + 2] (N + 3) W z → Upd b w z := fun z hk => hup z z hk (fun _ _ => rfl) rfl rfl rfl (Nat.le_refl _)
    clear hr hbv hbp hres hInv hPW hGW h hG hv hf hup ho hsz hg hbN
    subst hN hW
    go_enter Tryd.func57, Tryd.ntmps57
    go_wp2_with (go_at_call 69; refine hE.mono ?_; rintro e z ⟨hk, rfl⟩)
    exact ⟨rfl, hfin _ hk, rfl⟩
  | ok l q =>
    rw [hr] at hE
    show Calls _ _ _ _ (Done b s k w (.ok (.mk 4 false 0 [] l []) q) (jsV w))
    have hE : Calls Tryd.prog 69 #[.pointer (some ⟨b, 0, none⟩), .string ⟨#[93]⟩, .func (.func 70) #[] #[.pointer (some ⟨N + 2, 0, none⟩), .pointer (some ⟨N, 0, none⟩)]] W (fun e z => KeepL [b, N + 2] (N + 3) W z ∧ e = .returned (.tuple #[]) ∧ PAt z b s q k ∧ InvL (N + 3) (N + 2) N b l z) := hE
    have hfin : ∀ z, KeepL [b, N + 2] (N + 3) W z → PAt z b s q k → InvL (N + 3) (N + 2) N b l z → ∃ u nv, u.oneCell' = true ∧ nv.oneCell' = true ∧ Holds z (N + 2) (boxV 4 u nv) 27 ∧ Holds z (N + 1) zeroJ 27 ∧ ∀ z', Turned (N + 1) z z' (boxV 4 u nv) 27 → Done b s k w (.ok (.mk 4 false 0 [] l []) q) (jsV w) (.returned (.agg (boxV 4 u nv).toArray)) z' := fun z hk hPz ⟨⟨u, nv, es, hV⟩, _, hM⟩ => by
      obtain ⟨_, _, e1, _⟩ := own_val hV.own
      obtain ⟨_, _, e2, _⟩ := own_val hV.nown
      refine ⟨u, nv, by rw [e1]; rfl, by rw [e2]; rfl, hV.box, hres.keepL hk (by omega) (by simp; omega), fun z' hT => ⟨hup z z' hk (fun i h1 => hT.others i (by omega)) hT.os hT.tape hT.output (Nat.le_of_eq hT.size.symm), _, rfl, ?_, (hT.others b (by omega)).trans hPz⟩⟩
      exact hV.jat.mono fun i h1 h2 => ⟨by omega, hT.others i (by omega)⟩
    clear hr hbv hbp hres hInv hPW hGW h hG hv hf hup ho hsz hg hbN
    subst hN hW
    go_enter Tryd.func57, Tryd.ntmps57
    go_wp2_with (first
      | (go_at_call 69; refine hE.mono ?_; rintro e z ⟨hk, rfl, hPz, hIz⟩; obtain ⟨u, nv, ho1, ho2, hb1, hb2, hfin⟩ := hfin z hk hPz hIz)
      | (refine wpList_load_part rfl 27 (.tmp 3) rfl (w.heap.size + 2) 0 rfl _ _ (range_of hb1) Tryd.underlying27 rfl (by kernel_rfl) ?_)
      | (refine wpList_store_all rfl 27 (.tmp 2) (.tmp 8) rfl (w.heap.size + 1) rfl _ rfl 27 zeroJ hb2 (by kernel_rfl) rfl (one_box _ _ _ ho1 ho2) ?_; intro z' hT))
    exact bodyPost_ret (results_cell_row (p := 2) (by kernel_rfl) _ z' (w.heap.size + 1) 27 (boxV 4 u nv).toArray (0, 0) _ rfl hT.holds Tryd.underlying27 rfl (by kernel_rfl)) rfl (hfin z' hT)
end Go.Proofs.YtogippkapadolaaDoor
