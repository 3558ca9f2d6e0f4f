/- Who is designated, in plain data. -/
import Derived.Test.YtioimebfenklkaaCM
namespace Go.Proofs.Ytioimebfenklkaa
open Go.RowKit
set_option linter.unusedVariables false

structure CandZ where
  (id addr prio dr bdr : Int)
abbrev candA (c : CandZ) : Array Value := #[.int .i64 c.id, .int .i64 c.addr, .int .i64 c.prio, .int .i64 c.dr, .int .i64 c.bdr]
def candC (c : CandZ) : List Value := [.int .i64 c.id, .int .i64 c.addr, .int .i64 c.prio, .int .i64 c.dr, .int .i64 c.bdr]
theorem candC_length (c : CandZ) : (candC c).length = 5 := rfl
def zeroK : CandZ := ⟨0, 0, 0, 0, 0⟩
/-- a does not stand ahead of b. -/
def LeC (a b : CandZ) : Prop := a.prio < b.prio ∨ (a.prio = b.prio ∧ (a.id < b.id ∨ (a.id = b.id ∧ a.addr ≤ b.addr)))
theorem LeC.refl (a : CandZ) : LeC a a := .inr ⟨rfl, .inr ⟨rfl, Int.le_refl _⟩⟩
theorem LeC.trans {a b c : CandZ} (h : LeC a b) (k : LeC b c) : LeC a c := by unfold LeC at *; omega
theorem LeC.total (a b : CandZ) : LeC a b ∨ LeC b a := by unfold LeC; omega
theorem LeC.addr {a b : CandZ} (h : LeC a b) (k : LeC b a) : a.addr = b.addr := by unfold LeC at *; omega
def cmpK (a b : CandZ) : Int := orZ [cmpZ a.prio b.prio, cmpZ a.id b.id, cmpZ a.addr b.addr]
theorem cmpK_neg (a b : CandZ) : cmpK a b < 0 ↔ ¬ LeC b a := by
  unfold cmpK orZ orZ orZ orZ LeC
  rcases cmpZ_cases a.prio b.prio with ⟨h1, h2⟩ | ⟨h1, h2⟩ | ⟨h1, h2⟩ <;> rcases cmpZ_cases a.id b.id with ⟨h3, h4⟩ | ⟨h3, h4⟩ | ⟨h3, h4⟩ <;> rcases cmpZ_cases a.addr b.addr with ⟨h5, h6⟩ | ⟨h5, h6⟩ | ⟨h5, h6⟩ <;> rw [h1, h3, h5] <;> simp <;> omega
def betZ (a b : CandZ) : CandZ := if cmpK a b < 0 then b else a
theorem betZ_le (a b : CandZ) : LeC a (betZ a b) ∧ LeC b (betZ a b) ∧ (betZ a b = a ∨ betZ a b = b) := by
  unfold betZ
  by_cases h : cmpK a b < 0
  · rw [if_pos h]
    rw [cmpK_neg] at h
    exact ⟨(LeC.total a b).resolve_right h, LeC.refl _, .inr rfl⟩
  · rw [if_neg h]
    rw [cmpK_neg] at h
    exact ⟨LeC.refl _, Classical.not_not.1 h, .inl rfl⟩
structure ClaimsZ where
  (d b r : CandZ)
def clC (c : ClaimsZ) : List Value := candC c.d ++ (candC c.b ++ candC c.r)
def noClaims : ClaimsZ := ⟨zeroK, zeroK, zeroK⟩
def hearZ (c : ClaimsZ) (x : CandZ) : ClaimsZ :=
  if x.prio ≤ 0 then c else if x.dr = x.addr then { c with d := betZ c.d x } else if x.bdr = x.addr then { c with b := betZ c.b x } else { c with r := betZ c.r x }
def addrOrZ (c : CandZ) (o : Int) : Int := if c.prio = 0 then o else c.addr
def heardZ (self : CandZ) (l : List CandZ) : ClaimsZ := l.foldl hearZ (hearZ noClaims self)
def bdrZ (c : ClaimsZ) : Int := addrOrZ c.b c.r.addr
def drZ (c : ClaimsZ) : Int := addrOrZ c.d (bdrZ c)
def turnedZ (c : CandZ) (dr bdr : Int) : Bool := ((dr == c.addr) != (c.dr == c.addr)) || ((bdr == c.addr) != (c.bdr == c.addr))
def saysZ (c : CandZ) (dr bdr : Int) : CandZ := { c with dr := dr, bdr := bdr }
def electZ (self : CandZ) (l : List CandZ) : Int × Int :=
  if turnedZ self (drZ (heardZ self l)) (bdrZ (heardZ self l)) then (drZ (heardZ (saysZ self (drZ (heardZ self l)) (bdrZ (heardZ self l))) l), bdrZ (heardZ (saysZ self (drZ (heardZ self l)) (bdrZ (heardZ self l))) l))
  else (drZ (heardZ self l), bdrZ (heardZ self l))
end Go.Proofs.Ytioimebfenklkaa
