/- The statement's walk: a script of calls at both disks. -/
import Derived.Test.YthaknjbcmflegaaDoesB
import Derived.Test.YthaknjbcmflegaaDoesC
import Derived.Test.YthaknjbcmflegaaDoesD0
import Derived.Test.YthaknjbcmflegaaDoesD1
import Derived.Test.YthaknjbcmflegaaAwake
namespace Go.Proofs.Ythaknjbcmflegaa
open Go.RowKit Go.Maps Go.WideMaps

def clV (o : Cl) (na pa ka : Option Addr) (nc pc kc : Nat) : List Value := [.int .i64 o.kind, .int .i64 o.num, .slice na o.names.length nc, .slice pa o.parts.length pc, .slice ka o.picks.length kc]
/-- The script below a mark. -/
def ScriptAt (w : World) (N : Nat) (a : Option Addr) (os : List Cl) : Prop := os.length = 0 ∨ ∃ g o, a = some ⟨g, o, none⟩ ∧ g < N ∧ ∀ (i : Nat) (x : Cl), os[i]? = some x → ∃ na pa ka nc pc kc, (∀ (j : Nat) (u : Value), (clV x na pa ka nc pc kc)[j]? = some u → w.cell? ⟨g, o + i * 5 + j, none⟩ = some u) ∧ ClAt w N x na pa ka kc
theorem ScriptAt.below {w w' : World} {N : Nat} {a : Option Addr} {os : List Cl} (h : ScriptAt w N a os) (hb : Below N w w') : ScriptAt w' N a os := by
  rcases h with h | ⟨g, o, e, hg, hc⟩
  · exact .inl h
  · refine .inr ⟨g, o, e, hg, fun i x hx => ?_⟩
    obtain ⟨na, pa, ka, nc, pc, kc, h1, h2⟩ := hc i x hx
    exact ⟨na, pa, ka, nc, pc, kc, fun j u hu => (hb.cell hg).trans (h1 j u hu), h2.below hb⟩
theorem does_any (N d r : Nat) (S : Dk) (o : Cl) (ho : o.Ok) (na pa ka : Option Addr) (nc pc kc : Nat) (w : World) (hP : Pair w N d r S) (hC : ClAt w N o na pa ka kc) (hlen : S.fs.length < 256) :
    Calls Try.prog 7 #[.pointer (some ⟨d, 0, none⟩), .pointer (some ⟨r, 0, none⟩), .agg #[.int .i64 o.kind, .int .i64 o.num, .slice na o.names.length nc, .slice pa o.parts.length pc, .slice ka o.picks.length kc]] w fun e w' => e = .returned (.bool true) ∧ Left w w' N d r S := by
  obtain ⟨t, ht⟩ : ∃ t, Int.tmod o.kind 9 = t := ⟨_, rfl⟩
  have h1 : t < 9 ∧ -9 < t := by
    have a1 := Int.natAbs_tmod o.kind 9
    have a2 := Nat.mod_lt o.kind.natAbs (show 0 < Int.natAbs 9 by decide)
    rw [ht] at a1
    have a3 : Int.natAbs 9 = 9 := rfl
    rw [← a1, a3] at a2
    omega
  have h2 : (t = 0 ∨ t = 0 - 9) ∨ (t = 1 ∨ t = 1 - 9) ∨ (t = 2 ∨ t = 2 - 9) ∨ (t = 3 ∨ t = 3 - 9) ∨ (t = 4 ∨ t = 4 - 9) ∨ (t = 5 ∨ t = 5 - 9) ∨ (t = 6 ∨ t = 6 - 9) ∨ (t = 7 ∨ t = 7 - 9) ∨ (t = 8 ∨ t = 8 - 9) := by omega
  rcases h2 with h | h | h | h | h | h | h | h | h
  · exact does_0 N d r S o ho na pa ka nc pc kc w hP hC hlen t ht h
  · exact does_1 N d r S o ho na pa ka nc pc kc w hP hC hlen t ht h
  · exact does_2 N d r S o ho na pa ka nc pc kc w hP hC t ht h
  · exact does_3 N d r S o ho na pa ka nc pc kc w hP hC t ht h
  · exact does_4 N d r S o ho na pa ka nc pc kc w hP hC t ht h
  · exact does_5 N d r S o ho na pa ka nc pc kc w hP hC t ht h
  · exact does_6 N d r S o ho na pa ka nc pc kc w hP hC t ht h
  · exact does_7 N d r S o ho na pa ka nc pc kc w hP hC t ht h
  · exact does_8 N d r S o ho na pa ka nc pc kc w hP hC t ht h
end Go.Proofs.Ythaknjbcmflegaa
