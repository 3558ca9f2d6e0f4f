/- A database beside other memory. -/
import Derived.Test.YtbogphhbjmapgaaX8C
import Derived.Test.YtbogphhbjmapgaaY9F
import Derived.Test.YtbogphhbjmapgaaS8W13
import Derived.Test.YtbogphhbjmapgaaY9B
import Derived.Test.YtbogphhbjmapgaaY9C
namespace Go.Proofs.Ytbogphhbjmapgaa
open Go.RowKit
set_option linter.unusedVariables false

/-- The block k is none of a database's. -/
def Clear (k b : Nat) (lv : Value) (L : List Row) : Prop := k ≠ b ∧ lv.ownBlock ≠ some k ∧ ∀ r ∈ L, Off k r
theorem Keeps.clear_new {w : World} {N b k : Nat} {most : Int} {lv : Value} {L : List Row} (h : Keeps w N b most lv L) (hk : w.heap.size ≤ k) : Clear k b lv L :=
  ⟨by have := h.obj.lt; omega, fun e => by have := (World.ownsRow.lt h.own k e).2; omega, fun r hr => off_old (h.held r hr) hk⟩
theorem Keeps.own_lt {w : World} {N b : Nat} {most : Int} {lv : Value} {L : List Row} (h : Keeps w N b most lv L) : ∀ k, lv.ownBlock = some k → k < w.heap.size := fun k hk => (World.ownsRow.lt h.own k hk).2
theorem Keeps.own_lo {w : World} {N b : Nat} {most : Int} {lv : Value} {L : List Row} (h : Keeps w N b most lv L) : ∀ k, lv.ownBlock = some k → N ≤ k := fun k hk => (World.ownsRow.lt h.own k hk).1
theorem own_apart {w w' : World} {N b : Nat} {o : Option Nat} {e : TypeId} {size : Nat} {v : Value} {n : Nat} {xs : List Value} (h : w.ownsRow N e size v n xs) (ht : Turned b o w w') (hb : v.ownBlock ≠ some b) (ho : ∀ k, o = some k → v.ownBlock ≠ some k) : w'.ownsRow N e size v n xs := by
  refine ⟨h.1, h.2.imp id ?_⟩
  rintro ⟨g, cap, cur, rfl, h2, h3, r⟩
  refine ⟨g, cap, cur, rfl, h2, ?_, r⟩
  rw [ht.block g (Array.getElem?_eq_some_iff.1 h3).1 (fun e => hb (by rw [← e]; rfl)) (fun e => ho g e.symm rfl)]; exact h3
theorem own_turned {w w' : World} {N b : Nat} {o : Option Nat} {e : TypeId} {size : Nat} {v : Value} {n : Nat} {xs : List Value} (h : w.ownsRow N e size v n xs) (ht : Turned b o w w') (hb : b < N) (ho : ∀ k, o = some k → k < N) : w'.ownsRow N e size v n xs :=
  own_apart h ht (fun e => by have := (World.ownsRow.lt h b e).1; omega) (fun k hk e => by have := (World.ownsRow.lt h k e).1; have := ho k hk; omega)
theorem Var.turned {w w' : World} {b c : Nat} {o : Option Nat} {vs : List Value} (h : Var w c vs) (ht : Turned b o w w') (hb : b ≠ c) (ho : ∀ k, o = some k → k ≠ c) : Var w' c vs := by
  have hl := h.lt
  obtain ⟨t, h⟩ := h
  exact ⟨t, by rw [ht.block c hl (fun e => hb e.symm) (fun e => ho c e.symm rfl)]; exact h⟩
/-- What turns elsewhere leaves it. -/
theorem Keeps.other {w w' : World} {N b b' : Nat} {most : Int} {lv : Value} {L : List Row} {o : Option Nat} (h : Keeps w N b most lv L) (ht : Turned b' o w w') (hb : Clear b' b lv L) (ho : ∀ k, o = some k → Clear k b lv L) : Keeps w' N b most lv L where
  obj := h.obj.turned ht hb.1 (fun k hk => (ho k hk).1)
  lo := h.lo
  own := own_apart h.own ht hb.2.1 (fun k hk => (ho k hk).2.1)
  ne := h.ne
  held := fun r hr => (h.held r hr).turned ht (hb.2.2 r hr) (fun k hk => (ho k hk).2.2 r hr)
  nils := h.nils
  mid := h.mid
  shut := h.shut
  offb := h.offb
  offg := h.offg
  rising := h.rising
  len := h.len
theorem Keeps.grown {w w' : World} {N b : Nat} {most : Int} {lv : Value} {L : List Row} {o : Option Nat} (h : Keeps w N b most lv L) (hg : w.grownBy w' o) (ho : ∀ k, o = some k → Clear k b lv L) : Keeps w' N b most lv L :=
  h.other (Turned.grown (b := w.heap.size) hg) (h.clear_new (Nat.le_refl _)) ho
theorem Hence.trans {w w1 : World} {v v' v'' : Value} (h : Hence w v v') (k : Hence w1 v' v'') (hs : w.heap.size ≤ w1.heap.size) : Hence w v v'' := by
  rcases k with k | k
  · rcases h with h | h
    · exact .inl (k.trans h)
    · exact .inr (fun i hi => h i (by rw [← k]; exact hi))
  · exact .inr (fun i hi => Nat.le_trans hs (k i hi))
theorem Turned.more {b : Nat} {v v' : Value} {w w1 w2 : World} (h : Turned b v.ownBlock w w1) (hh : Hence w v v') (k : Turned b v'.ownBlock w1 w2) : Turned b v.ownBlock w w2 :=
  ⟨k.os.trans h.os, k.tape.trans h.tape, k.output.trans h.output, Nat.le_trans h.size k.size, fun i hi h1 h2 => (k.block i (Nat.lt_of_lt_of_le hi h.size) h1 (fun e => by
    rcases hh with hh | hh
    · exact h2 (by rw [← hh]; exact e)
    · have := hh i e.symm; omega)).trans (h.block i hi h1 h2)⟩
theorem Turned.low {b : Nat} {o : Option Nat} {w w1 w2 : World} (h : Turned b o w w1) (k : Below w.heap.size w1 w2) : Turned b o w w2 :=
  ⟨k.os.trans h.os, k.tape.trans h.tape, k.output.trans h.output, Nat.le_trans h.size k.size, fun i hi h1 h2 => (k.block i hi).trans (h.block i hi h1 h2)⟩
/-- What a call leaves of what was clear of a database. -/
def Still (w : World) (lv lv' : Value) (L L' : List Row) : Prop := Hence w lv lv' ∧ ∀ k, k < w.heap.size → (∀ r ∈ L, Off k r) → ∀ r ∈ L', Off k r
theorem Still.clear {w : World} {lv lv' : Value} {L L' : List Row} {k b : Nat} (h : Still w lv lv' L L') (hk : k < w.heap.size) (hc : Clear k b lv L) : Clear k b lv' L' :=
  ⟨hc.1, hence_ne h.1 hc.2.1 hk, h.2 k hk hc.2.2⟩
theorem Still.refl (w : World) (lv : Value) (L : List Row) : Still w lv lv L L := ⟨.inl rfl, fun _ _ h => h⟩
theorem Still.trans {w w1 : World} {lv lv' lv'' : Value} {L L' L'' : List Row} (h : Still w lv lv' L L') (k : Still w1 lv' lv'' L' L'') (hs : w.heap.size ≤ w1.heap.size) : Still w lv lv'' L L'' :=
  ⟨h.1.trans k.1 hs, fun j hj hr => k.2 j (Nat.lt_of_lt_of_le hj hs) (h.2 j hj hr)⟩
theorem still_set {w : World} {lv : Value} {L : List Row} {p : Nat} {s : Seats} {l : LsaZ} (h : FarR w.heap.size s) : Still w lv lv L (L.set p (s, l)) :=
  ⟨.inl rfl, fun k hk hr r hm => by
    rcases List.mem_or_eq_of_mem_set hm with hm | rfl
    · exact hr r hm
    · exact h.off hk⟩
theorem still_ins {w : World} {lv lv' : Value} {L : List Row} {p : Nat} {s : Seats} {l : LsaZ} (hh : Hence w lv lv') (h : FarR w.heap.size s) : Still w lv lv' L (insL L p (s, l)) :=
  ⟨hh, fun k hk hr r hm => by
    rcases insL_mem hm with rfl | hm
    · exact h.off hk
    · exact hr r hm⟩
end Go.Proofs.Ytbogphhbjmapgaa
/- What is put back into a database with another Age. -/
namespace Go.Proofs.Ytbogphhbjmapgaa
open Go.RowKit
set_option linter.unusedVariables false

/-- How putBack ends: one in its place has turned. -/
def BackEnd (w : World) (N b : Nat) (most : Int) (lv : Value) (L : List Row) (p : Nat) (l : LsaZ) (e : Ending) (w' : World) : Prop := ∃ s', e = .returned (.tuple #[]) ∧ Keeps w' N b most lv (L.set p (s', l)) ∧ Turned b lv.ownBlock w w' ∧ FarR w.heap.size s'
set_option maxHeartbeats 1600000 in
theorem back_any (N b : Nat) (most : Int) (lv : Value) (L : List Row) (s : Seats) (l : LsaZ) (w : World) (h : Keeps w N b most lv L) (hH : Held w s l) (hf : Mid l) (hN : Nils s) (p : Nat) (r : Row) (hpo : posZ L (keyZ l.head) = p) (hr : L[p]? = some r) (hk : rk r = keyZ l.head) (hs : sealedB l = true) (hc : ¬ 0 < newI r.2.head.age r.2.head.seq r.2.head.sum l.head.age l.head.seq l.head.sum) :
    Calls Try.prog 44 #[.pointer (some ⟨b, 0, none⟩), .agg (lsaA s l)] w (BackEnd w N b most lv L p l) := by
  have HX : Hid (Box (w.alloc (.cells (lsaA s l) 42)) w.heap.size s l) := box_new w s l
  have HB : Hid (Below w.heap.size w (w.alloc (.cells (lsaA s l) 42))) := below_new' _ _
  have CP := put_set0 N b most lv L s l (w.alloc (.cells (lsaA s l) 42)) (h.below HB.out) (hH.below HB.out) hf hN p r hpo hr hk hs hc
  have HBL : Hid (b < w.heap.size) := h.obj.lt
  clear h hH hf hN hpo hr hk hs hc
  go_enter Try.func44, Try.ntmps44
  go_upto_region 1 with fail
  generalize w.alloc (.cells (lsaA s l) 42) = W at *
  obtain ⟨c0, c1, c2, c3, c4, c5, c6, c7, c8, c9, c10, c11⟩ := HX.out
  go_wp2_with fail
  refine CP.mono ?_
  rintro e w3 ⟨s', rfl, hk, ht, hfa⟩
  have HF : Hid (FarR w.heap.size s') := by have := HB.out.size; exact ⟨hfa.1.mono this, hfa.2.1.mono this, hfa.2.2.mono this⟩
  have HK : Hid (Keeps w3 N b most lv (L.set p (s', l))) := hk
  have HT : Hid (Turned b lv.ownBlock w w3) := (Turned.of b _ HB.out).trans ht
  clear hk ht hfa CP c0 c1 c2 c3 c4 c5 c6 c7 c8 c9 c10 c11
  go_wp2
  exact bodyPost_ret (v := .tuple #[]) (by simp [results, Try.results44, go_sem]) rfl ⟨s', rfl, HK.out, HT.out, HF.out⟩
end Go.Proofs.Ytbogphhbjmapgaa
/- A list of the call's own, one thing behind the other appended to it. -/
namespace Go.Proofs.Ytbogphhbjmapgaa
open Go.RowKit

/-- What an append of one thing to a list of the call's own leaves. -/
theorem wp_append_thing {ops : Array Oper} {rest : List Oper} {o : Oper} {a : Act} {Q : Exit → Act → World → Prop} (w : World) (hgd : o.guard = none) (s x : Operand) (t : TypeId)
    (ho : o.op = .call { callee := .builtin .append, args := #[s, x], argTypes := #[t, t] }) (e : TypeId) (i : TypeInfo) (z : Value) (size bytes : Nat) (ht : Try.prog.underlying t = some (.slice e)) (hi : Try.prog.info? e = some i) (hz : i.zero = some z)
    (hsize : i.size = size) (hby : i.bytes = bytes) (hzs : z.cells.size = size) (hsz : 0 < size) (base : Nat) (v : Value) (n : Nat) (xs : List Value) (hs : a.eval s = v) (hown : w.ownsRow base e size v n xs)
    (ad : Addr) (c : Nat) (news : List Value) (hx : a.eval x = .slice (some ad) 1 c) (hl : news.length = size) (hL : Lies w (some ad) news) (h1 : ∀ u ∈ news, u.oneCell' = true) (h63 : n + 1 ≤ maxLen) (hb : (n + 1) * bytes ≤ 140737488355328) (hbase : base ≤ w.heap.size)
    (h : ∀ v' w', w'.ownsRow base e size v' (n + 1) (xs ++ news) → Below base w w' → wpList Try.prog ops Q rest (a.put o.dst v') w') : wpList Try.prog ops Q (o :: rest) a w := by
  refine wpList_append_own w hgd s x t ho base e i z size bytes ht hi hz hsize hby hzs hsz v n xs hs hown ad 1 c news hx (by rw [hl, Nat.one_mul]) hL.at h1 h63 hb hbase ?_
  intro v' w' ho' hg _
  exact h v' w' ho' ((Below.refl _ _).grown hg hbase (fun k hk => (World.ownsRow.lt hown k hk).1))
theorem row_below {w w' : World} {base e size n : Nat} {v : Value} {xs : List Value} (h : w.ownsRow base e size v n xs) (hb : Below w.heap.size w w') : w'.ownsRow base e size v n xs := by
  rcases h.2 with ⟨h', h0⟩ | ⟨g', cap', cur, h', hbg, hg, r⟩
  · exact ⟨h.1, .inl ⟨h', h0⟩⟩
  · have hlt := World.ownsRow.lt h g' (by rw [h']; rfl)
    exact ⟨h.1, .inr ⟨g', cap', cur, h', hbg, by rw [hb.block _ hlt.2]; exact hg, r⟩⟩
theorem lies_new (w : World) (vs : List Value) (t : TypeId) : Lies (w.alloc (.cells vs.toArray t)) (some ⟨w.heap.size, 0, none⟩) vs :=
  .inr ⟨_, _, rfl, fun i hi => by have h := (var_new w vs t).cell i (List.getElem?_eq_getElem hi); rw [Nat.zero_add]; rw [h]; simp [hi]⟩
theorem cells_none {α : Type} (f : α → List Value) {l : List α} (h : l.length = 0) : cellsOf f l = [] := by rw [List.eq_nil_of_length_eq_zero h]; rfl
theorem cells_more {α : Type} (f : α → List Value) (l : List α) (k : Nat) (hk : k < l.length) : cellsOf f (l.take (k + 1)) = cellsOf f (l.take k) ++ f l[k] := by
  unfold cellsOf; rw [← List.take_append_getElem hk, List.flatMap_append]; simp
end Go.Proofs.Ytbogphhbjmapgaa
/- Tick: what it keeps. -/
namespace Go.Proofs.Ytbogphhbjmapgaa
open Go.RowKit
set_option linter.unusedVariables false

theorem info_key : (Try.prog.info? 25).map (fun i => (i.zero, i.size, i.bytes)) = some (some (.agg #[.int .i64 0, .int .i64 0, .int .i64 0]), 3, 24) := by kernel_rfl
def tickK (L : List Row) : List KeyZ := keysOf (fun h => h.age == 3599) (L.map fun r => r.2.head)
/-- A list of Keys of the call's own. -/
def OwnK (w : World) (N : Nat) (v : Value) (D : List KeyZ) : Prop := w.ownsRow N 25 3 v D.length (cellsOf keyC D)
/-- How Tick ends. -/
def TickEnd (w : World) (N b : Nat) (most : Int) (lv : Value) (L : List Row) (e : Ending) (w' : World) : Prop :=
  ∃ v M, e = .returned v ∧ OwnK w' w.heap.size v (tickK L) ∧ Keeps w' N b most lv M ∧ M.map (·.2) = L.map (fun r => upL r.2) ∧ Turned b lv.ownBlock w w' ∧ Still w lv lv L M
/-- Rows of one's own beside a database, and beside the list v. -/
def Beside (w0 w : World) (g c : Nat) (L R : List Row) (v : Value) : Prop := w.ownsRow w0.heap.size 42 12 (.slice (some ⟨g, 0, none⟩) L.length c) L.length (cellsOf rowC R) ∧ (∀ j (h : j < L.length) (h' : j < R.length), R[j].2 = L[j].2 ∧ Free w0 w g R[j]) ∧ R.length = L.length ∧ ∀ k, v.ownBlock = some k → k ≠ g ∧ ∀ r ∈ R, Off k r
theorem Free.other {w0 w w' : World} {g b : Nat} {o : Option Nat} {r : Row} (h : Free w0 w g r) (ht : Turned b o w w') (hb : b < w0.heap.size) (ho : ∀ k, o = some k → k < w0.heap.size) : Free w0 w' g r :=
  ⟨h.1.turned ht (off_far h.2.2.1 h.2.2.2.1 h.2.2.2.2.1 hb) (fun k hk => off_far h.2.2.1 h.2.2.2.1 h.2.2.2.2.1 (ho k hk)), h.2⟩
theorem Beside.below {w0 w w' : World} {g c : Nat} {L R : List Row} {v : Value} (h : Beside w0 w g c L R v) (hb : Below w.heap.size w w') : Beside w0 w' g c L R v :=
  ⟨own_below h.1 hb, fun j h1 h2 => ⟨(h.2.1 j h1 h2).1, (h.2.1 j h1 h2).2.1.below hb, (h.2.1 j h1 h2).2.2⟩, h.2.2⟩
theorem Beside.other {w0 w w' : World} {g b c : Nat} {o : Option Nat} {L R : List Row} {v : Value} (h : Beside w0 w g c L R v) (ht : Turned b o w w') (hb : b < w0.heap.size) (ho : ∀ k, o = some k → k < w0.heap.size) : Beside w0 w' g c L R v :=
  ⟨own_turned h.1 ht hb ho, fun j h1 h2 => ⟨(h.2.1 j h1 h2).1, (h.2.1 j h1 h2).2.other ht hb ho⟩, h.2.2⟩
theorem Beside.grown {w0 w w' : World} {g c : Nat} {L R : List Row} {v v' : Value} (h : Beside w0 w g c L R v) (hg : w.grownBy w' v.ownBlock) (hh : Hence w v v') : Beside w0 w' g c L R v' := by
  have hT := Turned.grown (b := w.heap.size) hg
  have hgl := (World.ownsRow.lt h.1 g rfl).2
  have hR : ∀ r ∈ R, Held w r.1 r.2 := fun r hr => by
    obtain ⟨j, hj, rfl⟩ := List.getElem_of_mem hr
    exact (h.2.1 j (by rw [← h.2.2.1]; exact hj) hj).2.1
  refine ⟨own_apart h.1 hT (fun e => by simp [Value.ownBlock] at e; omega) (fun k hk e => (h.2.2.2 k hk).1 (by simp [Value.ownBlock] at e; exact e.symm)), fun j h1 h2 => ?_, h.2.2.1, fun k hk => ?_⟩
  · obtain ⟨q1, q2⟩ := h.2.1 j h1 h2
    exact ⟨q1, q2.1.turned hT (off_old q2.1 (Nat.le_refl _)) (fun k hk => (h.2.2.2 k hk).2 _ (List.getElem_mem h2)), q2.2⟩
  · rcases hh with hh | hh
    · exact h.2.2.2 k (by rw [← hh]; exact hk)
    · have := hh k hk
      exact ⟨by omega, fun r hr => off_old (hR r hr) this⟩
/-- The rows, of which the first i are ticked; beside the list v. -/
def Ticked (w0 w : World) (N b : Nat) (most : Int) (lv : Value) (L : List Row) (v : Value) (i : Nat) : Prop := ∃ M, Keeps w N b most lv M ∧ M.length = L.length ∧ (∀ j (h : j < L.length) (h' : j < M.length), M[j].2 = if j < i then upL L[j].2 else L[j].2) ∧ Still w0 lv lv L M ∧ ∀ k, v.ownBlock = some k → Clear k b lv M
theorem Ticked.below {w0 w w' : World} {N b i : Nat} {most : Int} {lv v : Value} {L : List Row} (h : Ticked w0 w N b most lv L v i) (hb : Below w.heap.size w w') : Ticked w0 w' N b most lv L v i :=
  let ⟨M, h1, h2, h3⟩ := h; ⟨M, h1.below hb, h2, h3⟩
theorem Ticked.grown {w0 w w' : World} {N b i : Nat} {most : Int} {lv v v' : Value} {L : List Row} (h : Ticked w0 w N b most lv L v i) (hg : w.grownBy w' v.ownBlock) (hh : Hence w v v') : Ticked w0 w' N b most lv L v' i := by
  obtain ⟨M, h1, h2, h3, h4, h5⟩ := h
  refine ⟨M, h1.grown hg h5, h2, h3, h4, fun k hk => ?_⟩
  rcases hh with hh | hh
  · exact h5 k (by rw [← hh]; exact hk)
  · exact h1.clear_new (hh k hk)
theorem Ticked.stay {w0 w : World} {N b i : Nat} {most : Int} {lv v : Value} {L : List Row} (h : Ticked w0 w N b most lv L v i) (hi : i < L.length) (he : upL L[i].2 = L[i].2) : Ticked w0 w N b most lv L v (i + 1) := by
  obtain ⟨M, h1, h2, h3, h4⟩ := h
  refine ⟨M, h1, h2, fun j hj hj' => ?_, h4⟩
  rw [h3 j hj hj']
  by_cases hji : j = i
  · subst hji; rw [if_neg (by omega), if_pos (by omega), he]
  · by_cases hlt : j < i
    · rw [if_pos hlt, if_pos (by omega)]
    · rw [if_neg hlt, if_neg (by omega)]
theorem tick_keys (L : List Row) (i : Nat) (hi : i < L.length) : tickK (L.take (i + 1)) = tickK (L.take i) ++ (if L[i].2.head.age = 3599 then [rk L[i]] else []) := by
  unfold tickK
  rw [List.map_take, List.map_take, keysOf_take _ _ _ (by rw [List.length_map]; exact hi)]
  simp only [List.getElem_map, beq_iff_eq]; rfl
/-- What putBack is asked for, and leaves. -/
theorem Ticked.back {w0 w : World} {N b i : Nat} {most : Int} {lv v : Value} {L : List Row} (h : Ticked w0 w N b most lv L v i) (hi : i < L.length) (ha : L[i].2.head.age < 3600) (s : Seats) (hH : Held w s L[i].2) (hN : Nils s) (hs0 : w0.heap.size ≤ w.heap.size) (hv : ∀ k, v.ownBlock = some k → k < w.heap.size) :
    Calls Try.prog 44 #[.pointer (some ⟨b, 0, none⟩), .agg (lsaA s (ageL L[i].2 (L[i].2.head.age + 1)))] w fun e w' => e = .returned (.tuple #[]) ∧ Ticked w0 w' N b most lv L v (i + 1) ∧ Turned b lv.ownBlock w w' := by
  obtain ⟨M, h1, h2, h3, hst, hcl⟩ := h
  have hiM : i < M.length := by rw [h2]; exact hi
  have hMi : M[i].2 = L[i].2 := by rw [h3 i hi hiM, if_neg (by omega)]
  have hin : M[i] ∈ M := List.getElem_mem hiM
  have hsh := h1.shut _ hin
  have hmi := h1.mid _ hin
  rw [hMi] at hsh hmi
  have hag := sealed_age hsh
  have hk : rk M[i] = keyZ L[i].2.head := by unfold rk; rw [hMi]
  refine (back_any N b most lv M s (ageL L[i].2 (L[i].2.head.age + 1)) w h1 (ageL_held hH) (ageL_mid hmi) hN i M[i] ?_ (List.getElem?_eq_getElem hiM) hk (ageL_sealed hsh (by omega) (by omega)) ?_).mono ?_
  · rw [ageL_key, ← hk]; exact posZ_self h1.rising i hiM
  · rw [hMi]; exact newI_tick ha
  · rintro e w' ⟨s', h4, h5, h6, h7⟩
    refine ⟨h4, ⟨_, h5, by rw [List.length_set]; exact h2, fun j hj hj' => ?_, hst.trans (still_set h7) hs0, fun k hk => (still_set (p := i) (l := ageL L[i].2 (L[i].2.head.age + 1)) h7).clear (hv k hk) (hcl k hk)⟩, h6⟩
    by_cases hji : j = i
    · subst hji
      rw [List.getElem_set_self, if_pos (by omega)]
      show ageL _ _ = upL _
      unfold upL; rw [if_pos ha]
    · have hj2 : j < M.length := by rw [h2]; exact hj
      rw [List.getElem_set_ne (by omega), h3 j hj hj2]
      by_cases hlt : j < i
      · rw [if_pos hlt, if_pos (by omega)]
      · rw [if_neg hlt, if_neg (by omega)]
theorem Ticked.done {w0 w : World} {N b : Nat} {most : Int} {lv v : Value} {L : List Row} (h : Ticked w0 w N b most lv L v L.length) : ∃ M, Keeps w N b most lv M ∧ M.map (·.2) = L.map (fun r => upL r.2) ∧ Still w0 lv lv L M := by
  obtain ⟨M, h1, h2, h3, h4, _⟩ := h
  refine ⟨M, h1, List.ext_getElem (by simp [h2]) fun j hj hj' => ?_, h4⟩
  simp only [List.length_map] at hj hj'
  rw [List.getElem_map, List.getElem_map, h3 j hj' hj, if_pos hj']
end Go.Proofs.Ytbogphhbjmapgaa
