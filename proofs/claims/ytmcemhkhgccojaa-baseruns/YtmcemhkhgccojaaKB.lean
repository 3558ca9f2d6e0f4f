/- A database beside other memory. -/
import Derived.Test.YtmcemhkhgccojaaX8C
namespace Go.Proofs.Ytmcemhkhgccojaa
open Go.RowKit
set_option linter.unusedVariables false

/-- The block k is none of a database's. -/
def Clear (k b : Nat) (lv : Value) (L : List Row) : Prop := k ≠ b ∧ lv.ownBlock ≠ some k ∧ ∀ r ∈ L, Off k r
theorem Keeps.clear_new {w : World} {N b k : Nat} {most : Int} {lv : Value} {L : List Row} (h : Keeps w N b most lv L) (hk : w.heap.size ≤ k) : Clear k b lv L :=
  ⟨by have := h.obj.lt; omega, fun e => by have := (World.ownsRow.lt h.own k e).2; omega, fun r hr => off_old (h.held r hr) hk⟩
theorem Keeps.own_lt {w : World} {N b : Nat} {most : Int} {lv : Value} {L : List Row} (h : Keeps w N b most lv L) : ∀ k, lv.ownBlock = some k → k < w.heap.size := fun k hk => (World.ownsRow.lt h.own k hk).2
theorem Keeps.own_lo {w : World} {N b : Nat} {most : Int} {lv : Value} {L : List Row} (h : Keeps w N b most lv L) : ∀ k, lv.ownBlock = some k → N ≤ k := fun k hk => (World.ownsRow.lt h.own k hk).1
theorem own_apart {w w' : World} {N b : Nat} {o : Option Nat} {e : TypeId} {size : Nat} {v : Value} {n : Nat} {xs : List Value} (h : w.ownsRow N e size v n xs) (ht : Turned b o w w') (hb : v.ownBlock ≠ some b) (ho : ∀ k, o = some k → v.ownBlock ≠ some k) : w'.ownsRow N e size v n xs := by
  refine ⟨h.1, h.2.imp id ?_⟩
  rintro ⟨g, cap, cur, rfl, h2, h3, r⟩
  refine ⟨g, cap, cur, rfl, h2, ?_, r⟩
  rw [ht.block g (Array.getElem?_eq_some_iff.1 h3).1 (fun e => hb (by rw [← e]; rfl)) (fun e => ho g e.symm rfl)]; exact h3
theorem own_turned {w w' : World} {N b : Nat} {o : Option Nat} {e : TypeId} {size : Nat} {v : Value} {n : Nat} {xs : List Value} (h : w.ownsRow N e size v n xs) (ht : Turned b o w w') (hb : b < N) (ho : ∀ k, o = some k → k < N) : w'.ownsRow N e size v n xs :=
  own_apart h ht (fun e => by have := (World.ownsRow.lt h b e).1; omega) (fun k hk e => by have := (World.ownsRow.lt h k e).1; have := ho k hk; omega)
theorem Var.turned {w w' : World} {b c : Nat} {o : Option Nat} {vs : List Value} (h : Var w c vs) (ht : Turned b o w w') (hb : b ≠ c) (ho : ∀ k, o = some k → k ≠ c) : Var w' c vs := by
  have hl := h.lt
  obtain ⟨t, h⟩ := h
  exact ⟨t, by rw [ht.block c hl (fun e => hb e.symm) (fun e => ho c e.symm rfl)]; exact h⟩
/-- What turns elsewhere leaves it. -/
theorem Keeps.other {w w' : World} {N b b' : Nat} {most : Int} {lv : Value} {L : List Row} {o : Option Nat} (h : Keeps w N b most lv L) (ht : Turned b' o w w') (hb : Clear b' b lv L) (ho : ∀ k, o = some k → Clear k b lv L) : Keeps w' N b most lv L where
  obj := h.obj.turned ht hb.1 (fun k hk => (ho k hk).1)
  lo := h.lo
  own := own_apart h.own ht hb.2.1 (fun k hk => (ho k hk).2.1)
  ne := h.ne
  held := fun r hr => (h.held r hr).turned ht (hb.2.2 r hr) (fun k hk => (ho k hk).2.2 r hr)
  nils := h.nils
  mid := h.mid
  shut := h.shut
  offb := h.offb
  offg := h.offg
  rising := h.rising
  len := h.len
theorem Keeps.grown {w w' : World} {N b : Nat} {most : Int} {lv : Value} {L : List Row} {o : Option Nat} (h : Keeps w N b most lv L) (hg : w.grownBy w' o) (ho : ∀ k, o = some k → Clear k b lv L) : Keeps w' N b most lv L :=
  h.other (Turned.grown (b := w.heap.size) hg) (h.clear_new (Nat.le_refl _)) ho
theorem Hence.trans {w w1 : World} {v v' v'' : Value} (h : Hence w v v') (k : Hence w1 v' v'') (hs : w.heap.size ≤ w1.heap.size) : Hence w v v'' := by
  rcases k with k | k
  · rcases h with h | h
    · exact .inl (k.trans h)
    · exact .inr (fun i hi => h i (by rw [← k]; exact hi))
  · exact .inr (fun i hi => Nat.le_trans hs (k i hi))
theorem Turned.more {b : Nat} {v v' : Value} {w w1 w2 : World} (h : Turned b v.ownBlock w w1) (hh : Hence w v v') (k : Turned b v'.ownBlock w1 w2) : Turned b v.ownBlock w w2 :=
  ⟨k.os.trans h.os, k.tape.trans h.tape, k.output.trans h.output, Nat.le_trans h.size k.size, fun i hi h1 h2 => (k.block i (Nat.lt_of_lt_of_le hi h.size) h1 (fun e => by
    rcases hh with hh | hh
    · exact h2 (by rw [← hh]; exact e)
    · have := hh i e.symm; omega)).trans (h.block i hi h1 h2)⟩
theorem Turned.low {b : Nat} {o : Option Nat} {w w1 w2 : World} (h : Turned b o w w1) (k : Below w.heap.size w1 w2) : Turned b o w w2 :=
  ⟨k.os.trans h.os, k.tape.trans h.tape, k.output.trans h.output, Nat.le_trans h.size k.size, fun i hi h1 h2 => (k.block i hi).trans (h.block i hi h1 h2)⟩
/-- What a call leaves of what was clear of a database. -/
def Still (w : World) (lv lv' : Value) (L L' : List Row) : Prop := Hence w lv lv' ∧ ∀ k, k < w.heap.size → (∀ r ∈ L, Off k r) → ∀ r ∈ L', Off k r
theorem Still.clear {w : World} {lv lv' : Value} {L L' : List Row} {k b : Nat} (h : Still w lv lv' L L') (hk : k < w.heap.size) (hc : Clear k b lv L) : Clear k b lv' L' :=
  ⟨hc.1, hence_ne h.1 hc.2.1 hk, h.2 k hk hc.2.2⟩
theorem Still.refl (w : World) (lv : Value) (L : List Row) : Still w lv lv L L := ⟨.inl rfl, fun _ _ h => h⟩
theorem Still.trans {w w1 : World} {lv lv' lv'' : Value} {L L' L'' : List Row} (h : Still w lv lv' L L') (k : Still w1 lv' lv'' L' L'') (hs : w.heap.size ≤ w1.heap.size) : Still w lv lv'' L L'' :=
  ⟨h.1.trans k.1 hs, fun j hj hr => k.2 j (Nat.lt_of_lt_of_le hj hs) (h.2 j hj hr)⟩
theorem still_set {w : World} {lv : Value} {L : List Row} {p : Nat} {s : Seats} {l : LsaZ} (h : FarR w.heap.size s) : Still w lv lv L (L.set p (s, l)) :=
  ⟨.inl rfl, fun k hk hr r hm => by
    rcases List.mem_or_eq_of_mem_set hm with hm | rfl
    · exact hr r hm
    · exact h.off hk⟩
theorem still_ins {w : World} {lv lv' : Value} {L : List Row} {p : Nat} {s : Seats} {l : LsaZ} (hh : Hence w lv lv') (h : FarR w.heap.size s) : Still w lv lv' L (insL L p (s, l)) :=
  ⟨hh, fun k hk hr r hm => by
    rcases insL_mem hm with rfl | hm
    · exact h.off hk
    · exact hr r hm⟩
end Go.Proofs.Ytmcemhkhgccojaa
