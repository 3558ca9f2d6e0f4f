/- Links and vertices read from bytes. -/
import Derived.Test.YtoanjhccbmifmaaDoorS5W16
import Derived.Test.YtoanjhccbmifmaaDoorOL
namespace Go.Proofs.YtoanjhccbmifmaaDoor
open Go.RowKit

theorem Var.put4 {w : World} {b : Nat} {a0 a1 a2 a3 : Value} (h : Var w b [a0, a1, a2, a3]) (v0 v1 v2 v3 : Value) : Var ((((w.setCell ⟨b, 0, none⟩ v0).setCell ⟨b, 1, none⟩ v1).setCell ⟨b, 2, none⟩ v2).setCell ⟨b, 3, none⟩ v3) b [v0, v1, v2, v3] :=
  h |>.set 0 v0 |>.set 1 v1 |>.set 2 v2 |>.set 3 v3
theorem below_put4 {w0 w : World} {N b : Nat} (h : Below N w0 w) (hb : N ≤ b) (v0 v1 v2 v3 : Value) : Below N w0 ((((w.setCell ⟨b, 0, none⟩ v0).setCell ⟨b, 1, none⟩ v1).setCell ⟨b, 2, none⟩ v2).setCell ⟨b, 3, none⟩ v3) := by
  have hx : ∀ i, N ≤ (⟨b, i, none⟩ : Addr).block := fun _ => hb
  exact h |>.setCell (hx 0) v0 |>.setCell (hx 1) v1 |>.setCell (hx 2) v2 |>.setCell (hx 3) v3
theorem keep_put4 {w x : World} {p : Addr} {v : Value} {N : Nat} (h : x.cell? p = some v ∧ Hid (Below N w x)) (hp : p.block < N) (v0 v1 v2 v3 : Value) : ((((x.setCell ⟨N, 0, none⟩ v0).setCell ⟨N, 1, none⟩ v1).setCell ⟨N, 2, none⟩ v2).setCell ⟨N, 3, none⟩ v3).cell? p = some v ∧ Hid (Below N w ((((x.setCell ⟨N, 0, none⟩ v0).setCell ⟨N, 1, none⟩ v1).setCell ⟨N, 2, none⟩ v2).setCell ⟨N, 3, none⟩ v3)) :=
  ⟨by rw [(below_put4 (Below.refl N x) (Nat.le_refl _) v0 v1 v2 v3).cell hp]; exact h.1, below_put4 h.2.out (Nat.le_refl _) v0 v1 v2 v3⟩
theorem Var.put2 {w : World} {b : Nat} {a0 a1 : Value} (h : Var w b [a0, a1]) (v0 v1 : Value) : Var ((w.setCell ⟨b, 0, none⟩ v0).setCell ⟨b, 1, none⟩ v1) b [v0, v1] :=
  h |>.set 0 v0 |>.set 1 v1
theorem below_put2 {w0 w : World} {N b : Nat} (h : Below N w0 w) (hb : N ≤ b) (v0 v1 : Value) : Below N w0 ((w.setCell ⟨b, 0, none⟩ v0).setCell ⟨b, 1, none⟩ v1) := by
  have hx : ∀ i, N ≤ (⟨b, i, none⟩ : Addr).block := fun _ => hb
  exact h |>.setCell (hx 0) v0 |>.setCell (hx 1) v1
theorem keep_put2 {w x : World} {p : Addr} {v : Value} {N : Nat} (h : x.cell? p = some v ∧ Hid (Below N w x)) (hp : p.block < N) (v0 v1 : Value) : ((x.setCell ⟨N, 0, none⟩ v0).setCell ⟨N, 1, none⟩ v1).cell? p = some v ∧ Hid (Below N w ((x.setCell ⟨N, 0, none⟩ v0).setCell ⟨N, 1, none⟩ v1)) :=
  ⟨by rw [(below_put2 (Below.refl N x) (Nat.le_refl _) v0 v1).cell hp]; exact h.1, below_put2 h.2.out (Nat.le_refl _) v0 v1⟩

def readLZ (zs : List Int) : LinkZ := ⟨zs.getD 8 0, num4At zs 0, num4At zs 4, num2At zs 10⟩
def readVZ (zs : List Int) : VertZ := ⟨num4At zs 0, num4At zs 4⟩
theorem numOf_04 (zs : List Int) (off : Nat) : numOf zs off off 4 = num4At zs 0 := numOf_4 zs off 0
set_option maxHeartbeats 3200000 in
set_option maxRecDepth 20000 in
theorem readLink_any (b off cap : Nat) (zs : List Int) (w : World) (hc : ∀ i, i < 12 → w.cell? ⟨b, off + i, none⟩ = some (.int .u8 (zs.getD i 0))) (hz : AreBytes zs) (hcap : 12 ≤ cap) :
    Calls Tryd.prog 88 #[.slice (some ⟨b, off, none⟩) 12 cap] w fun e w' => e = .returned (.agg (linkC (readLZ zs)).toArray) ∧ Below w.heap.size w w' := by
  have hb : b < w.heap.size := by
    rcases Nat.lt_or_ge b w.heap.size with h | h
    · exact h
    · have := hc 0 (by omega); simp [World.cell?, Array.getElem?_eq_none h] at this
  have HC : Hid (∀ i, i < 12 → (w.alloc (.cells #[.int .i64 0, .int .i64 0, .int .i64 0, .int .i64 0] 68)).drew.cell? ⟨b, off + i, none⟩ = some (.int .u8 (zs.getD i 0))) := fun i hi => by
    show (w.alloc (.cells #[.int .i64 0, .int .i64 0, .int .i64 0, .int .i64 0] 68)).cell? _ = _
    rw [World.cell?_alloc_lt _ _ ⟨b, off + i, none⟩ hb]; exact hc i hi
  have c8 : (w.alloc (.cells #[.int .i64 0, .int .i64 0, .int .i64 0, .int .i64 0] 68)).cell? ⟨b, off + 8, none⟩ = some (.int .u8 (zs.getD 8 0)) := HC.out 8 (by omega)
  have b8 := areBytes_getD hz 8
  obtain ⟨z8, hz8⟩ : ∃ z8, zs.getD 8 0 = z8 := ⟨_, rfl⟩
  have HZ8 : Hid (zs.getD 8 0 = z8) := hz8
  rw [hz8] at c8 b8
  clear hz8
  have HZ : Hid (AreBytes zs) := hz
  have HV : Hid (Var (w.alloc (.cells #[.int .i64 0, .int .i64 0, .int .i64 0, .int .i64 0] 68)) w.heap.size [.int .i64 0, .int .i64 0, .int .i64 0, .int .i64 0]) := var_new w [.int .i64 0, .int .i64 0, .int .i64 0, .int .i64 0] _
  have HB : Hid (Below w.heap.size w (w.alloc (.cells #[.int .i64 0, .int .i64 0, .int .i64 0, .int .i64 0] 68))) := below_new' _ _
  have HLT : Hid (b < w.heap.size) := hb
  clear hc hz hb
  go_enter Tryd.func88, Tryd.ntmps88
  go_upto_region 1 with fail
  generalize (w.alloc (.cells #[.int .i64 0, .int .i64 0, .int .i64 0, .int .i64 0] 68)) = W at *
  have r0 := HV.out.cell 0 rfl
  have q0 := HV.out.frozen 0
  have r1 := HV.out.cell 1 rfl
  have q1 := HV.out.frozen 1
  have r2 := HV.out.cell 2 rfl
  have q2 := HV.out.frozen 2
  have r3 := HV.out.cell 3 rfl
  have q3 := HV.out.frozen 3
  have hbs : b < w.heap.size := HLT.out
  have k4 : ¬ cap = 4 := by omega
  have k10 : ¬ cap = 10 := by omega
  have j4 : (4 : Int) ≤ (cap : Int) := by omega
  have j8 : (8 : Int) ≤ (cap : Int) := by omega
  have t8 : IntKind.i64.wrap z8 = z8 := by rw [IntKind.wrap_i64]; omega
  go_region_held3 (fun x => x.cell? ⟨b, off + 8, none⟩ = some (.int .u8 z8) ∧ Hid (Below w.heap.size w x)) (with_reducible first | exact ⟨c8, HB⟩ | exact keep_dr ⟨c8, HB⟩ | exact keep_dr (keep_put4 ⟨c8, HB⟩ hbs _ _ _ _) | exact keep_put4 ⟨c8, HB⟩ hbs _ _ _ _ | fail)
    (first | (go_at_call 74; refine (wnum_at b off 12 _ _ _ zs _ HC.out HZ.out (by omega)).mono ?_; rintro e w' ⟨rfl, rfl⟩) | fail)
  rename_i hH
  have HZZ : Hid (Var ((((W.setCell ⟨w.heap.size, 0, none⟩ (.int .i64 z8)).setCell ⟨w.heap.size, 1, none⟩ (.int .i64 (numOf zs off off 4))).setCell ⟨w.heap.size, 2, none⟩ (.int .i64 (numOf zs off (off + 4) 4))).setCell ⟨w.heap.size, 3, none⟩ (.int .i64 (numOf zs off (off + 10) 2))) w.heap.size _) := HV.out.put4 (.int .i64 z8) (.int .i64 (numOf zs off off 4)) (.int .i64 (numOf zs off (off + 4) 4)) (.int .i64 (numOf zs off (off + 10) 2))
  have HK : Hid (Below w.heap.size w ((((W.setCell ⟨w.heap.size, 0, none⟩ (.int .i64 z8)).setCell ⟨w.heap.size, 1, none⟩ (.int .i64 (numOf zs off off 4))).setCell ⟨w.heap.size, 2, none⟩ (.int .i64 (numOf zs off (off + 4) 4))).setCell ⟨w.heap.size, 3, none⟩ (.int .i64 (numOf zs off (off + 10) 2))).drew) := hH.2
  have HR : Hid ((linkC (readLZ zs)).toArray = #[.int .i64 z8, .int .i64 (numOf zs off off 4), .int .i64 (numOf zs off (off + 4) 4), .int .i64 (numOf zs off (off + 10) 2)]) := by
    show _ = _
    rw [numOf_04, numOf_4, numOf_2, ← HZ8.out]; rfl
  clear hH r0 q0 r1 q1 r2 q2 r3 q3
  generalize ((((W.setCell ⟨w.heap.size, 0, none⟩ (.int .i64 z8)).setCell ⟨w.heap.size, 1, none⟩ (.int .i64 (numOf zs off off 4))).setCell ⟨w.heap.size, 2, none⟩ (.int .i64 (numOf zs off (off + 4) 4))).setCell ⟨w.heap.size, 3, none⟩ (.int .i64 (numOf zs off (off + 10) 2))) = Z at *
  replace HZZ : Hid (Var Z.drew w.heap.size _) := HZZ.out.drew
  generalize Z.drew = Y at *
  have r0 := HZZ.out.cell 0 rfl
  have r1 := HZZ.out.cell 1 rfl
  have r2 := HZZ.out.cell 2 rfl
  have r3 := HZZ.out.cell 3 rfl
  go_wp2
  refine bodyPost_ret (by simp [results, Tryd.results88, go_sem, r0, r1, r2, r3]; try rfl) rfl ?_
  exact ⟨by rw [HR.out], HK.out⟩
set_option maxHeartbeats 3200000 in
set_option maxRecDepth 20000 in
theorem readVert_any (b off cap : Nat) (zs : List Int) (w : World) (hc : ∀ i, i < 8 → w.cell? ⟨b, off + i, none⟩ = some (.int .u8 (zs.getD i 0))) (hz : AreBytes zs) (hcap : 8 ≤ cap) :
    Calls Tryd.prog 92 #[.slice (some ⟨b, off, none⟩) 8 cap] w fun e w' => e = .returned (.agg (vertC (readVZ zs)).toArray) ∧ Below w.heap.size w w' := by
  have hb : b < w.heap.size := by
    rcases Nat.lt_or_ge b w.heap.size with h | h
    · exact h
    · have := hc 0 (by omega); simp [World.cell?, Array.getElem?_eq_none h] at this
  have HC : Hid (∀ i, i < 8 → (w.alloc (.cells #[.int .i64 0, .int .i64 0] 58)).drew.cell? ⟨b, off + i, none⟩ = some (.int .u8 (zs.getD i 0))) := fun i hi => by
    show (w.alloc (.cells #[.int .i64 0, .int .i64 0] 58)).cell? _ = _
    rw [World.cell?_alloc_lt _ _ ⟨b, off + i, none⟩ hb]; exact hc i hi
  have c8 : (w.alloc (.cells #[.int .i64 0, .int .i64 0] 58)).cell? ⟨b, off + 0, none⟩ = some (.int .u8 (zs.getD 0 0)) := HC.out 0 (by omega)
  have HZ : Hid (AreBytes zs) := hz
  have HV : Hid (Var (w.alloc (.cells #[.int .i64 0, .int .i64 0] 58)) w.heap.size [.int .i64 0, .int .i64 0]) := var_new w [.int .i64 0, .int .i64 0] _
  have HB : Hid (Below w.heap.size w (w.alloc (.cells #[.int .i64 0, .int .i64 0] 58))) := below_new' _ _
  have HLT : Hid (b < w.heap.size) := hb
  clear hc hz hb
  go_enter Tryd.func92, Tryd.ntmps92
  go_upto_region 1 with fail
  generalize (w.alloc (.cells #[.int .i64 0, .int .i64 0] 58)) = W at *
  have r0 := HV.out.cell 0 rfl
  have q0 := HV.out.frozen 0
  have r1 := HV.out.cell 1 rfl
  have q1 := HV.out.frozen 1
  have hbs : b < w.heap.size := HLT.out
  have k4 : ¬ cap = 4 := by omega
  have j4 : (4 : Int) ≤ (cap : Int) := by omega
  go_region_held3 (fun x => x.cell? ⟨b, off + 0, none⟩ = some (.int .u8 (zs.getD 0 0)) ∧ Hid (Below w.heap.size w x)) (with_reducible first | exact ⟨c8, HB⟩ | exact keep_dr ⟨c8, HB⟩ | exact keep_dr (keep_put2 ⟨c8, HB⟩ hbs _ _) | exact keep_put2 ⟨c8, HB⟩ hbs _ _ | fail)
    (first | (go_at_call 74; refine (wnum_at b off 8 _ _ _ zs _ HC.out HZ.out (by omega)).mono ?_; rintro e w' ⟨rfl, rfl⟩) | fail)
  rename_i hH
  have HZZ : Hid (Var ((W.setCell ⟨w.heap.size, 0, none⟩ (.int .i64 (numOf zs off off 4))).setCell ⟨w.heap.size, 1, none⟩ (.int .i64 (numOf zs off (off + 4) 4))) w.heap.size _) := HV.out.put2 (.int .i64 (numOf zs off off 4)) (.int .i64 (numOf zs off (off + 4) 4))
  have HK : Hid (Below w.heap.size w ((W.setCell ⟨w.heap.size, 0, none⟩ (.int .i64 (numOf zs off off 4))).setCell ⟨w.heap.size, 1, none⟩ (.int .i64 (numOf zs off (off + 4) 4))).drew) := hH.2
  have HR : Hid ((vertC (readVZ zs)).toArray = #[.int .i64 (numOf zs off off 4), .int .i64 (numOf zs off (off + 4) 4)]) := by
    show _ = _
    rw [numOf_04, numOf_4]; rfl
  clear hH r0 q0 r1 q1
  generalize ((W.setCell ⟨w.heap.size, 0, none⟩ (.int .i64 (numOf zs off off 4))).setCell ⟨w.heap.size, 1, none⟩ (.int .i64 (numOf zs off (off + 4) 4))) = Z at *
  replace HZZ : Hid (Var Z.drew w.heap.size _) := HZZ.out.drew
  generalize Z.drew = Y at *
  have r0 := HZZ.out.cell 0 rfl
  have r1 := HZZ.out.cell 1 rfl
  go_wp2
  refine bodyPost_ret (by simp [results, Tryd.results92, go_sem, r0, r1]; try rfl) rfl ?_
  exact ⟨by rw [HR.out], HK.out⟩
end Go.Proofs.YtoanjhccbmifmaaDoor
/- Lists read from bytes. -/
namespace Go.Proofs.YtoanjhccbmifmaaDoor
open Go.RowKit

/-- As many as stand whole there, of m bytes each. -/
def readL {α : Type} (m : Nat) (f : List Int → α) (zs : List Int) : List α := (List.range (zs.length / m)).map fun i => f (zs.drop (i * m))
theorem readL_length {α : Type} (m : Nat) (f : List Int → α) (zs : List Int) : (readL m f zs).length = zs.length / m := by unfold readL; simp
theorem readL_at {α : Type} (m : Nat) (f : List Int → α) (zs : List Int) (k : Nat) (h : k < (readL m f zs).length) : (readL m f zs)[k] = f (zs.drop (k * m)) := by
  have h1 : k < zs.length / m := by rwa [readL_length] at h
  have h2 : (readL m f zs)[k]? = some (f (zs.drop (k * m))) := by unfold readL; rw [List.getElem?_map, List.getElem?_range h1]; rfl
  rw [List.getElem?_eq_getElem h] at h2; exact Option.some.inj h2
theorem readL_more {m k : Nat} (hm : 0 < m) {zs : List Int} (h : m ≤ (zs.drop (k * m)).length) : k < zs.length / m := by
  rw [List.length_drop] at h
  exact (Nat.lt_div_iff_mul_lt hm).2 (by have := Nat.succ_mul k m; omega)
theorem readL_end {m k : Nat} {zs : List Int} (h : (zs.drop (k * m)).length < m) (hk : k ≤ zs.length / m) : k = zs.length / m := by
  rw [List.length_drop] at h
  have h1 : zs.length < (k + 1) * m := by rw [Nat.succ_mul]; omega
  have h2 := Nat.div_lt_of_lt_mul (by rw [Nat.mul_comm]; exact h1)
  omega
theorem drop_more (zs : List Int) (k m : Nat) : (zs.drop (k * m)).drop m = zs.drop ((k + 1) * m) := by rw [List.drop_drop, Nat.succ_mul]
theorem getD_drop (zs : List Int) (k i : Nat) : (zs.drop k).getD i 0 = zs.getD (k + i) 0 := by simp [List.getD_eq_getElem?_getD, List.getElem?_drop]
/-- What an append of one thing to a list of the call's own leaves. -/
theorem wp_append_thing {ops : Array Oper} {rest : List Oper} {o : Oper} {a : Act} {Q : Exit → Act → World → Prop} (w : World) (hgd : o.guard = none) (s x : Operand) (t : TypeId)
    (ho : o.op = .call { callee := .builtin .append, args := #[s, x], argTypes := #[t, t] }) (e : TypeId) (i : TypeInfo) (z : Value) (size bytes : Nat) (ht : Tryd.prog.underlying t = some (.slice e)) (hi : Tryd.prog.info? e = some i) (hz : i.zero = some z)
    (hsize : i.size = size) (hby : i.bytes = bytes) (hzs : z.cells.size = size) (hsz : 0 < size) (base : Nat) (v : Value) (n : Nat) (xs : List Value) (hs : a.eval s = v) (hown : w.ownsRow base e size v n xs)
    (ad : Addr) (c : Nat) (news : List Value) (hx : a.eval x = .slice (some ad) 1 c) (hl : news.length = size) (hL : Lies w (some ad) news) (h1 : ∀ u ∈ news, u.oneCell' = true) (h63 : n + 1 ≤ maxLen) (hb : (n + 1) * bytes ≤ 140737488355328) (hbase : base ≤ w.heap.size)
    (h : ∀ v' w', w'.ownsRow base e size v' (n + 1) (xs ++ news) → Below base w w' → wpList Tryd.prog ops Q rest (a.put o.dst v') w') : wpList Tryd.prog ops Q (o :: rest) a w := by
  refine wpList_append_own w hgd s x t ho base e i z size bytes ht hi hz hsize hby hzs hsz v n xs hs hown ad 1 c news hx (by rw [hl, Nat.one_mul]) hL.at h1 h63 hb hbase ?_
  intro v' w' ho' hg _
  exact h v' w' ho' ((Below.refl _ _).grown hg hbase (fun k hk => (World.ownsRow.lt hown k hk).1))
theorem slice_next {w : World} {b off c m : Nat} {rs : List Int} (h : Slice w (some ⟨b, off, none⟩) c rs) (hm : m ≤ rs.length) :
    ∀ a' : Option Addr, (a' = some ⟨b, off + m, none⟩ ∨ c = m ∧ a' = some ⟨b, off, none⟩) → Slice w a' (c - m) (rs.drop m) := by
  intro a' ha
  have hr := h.room
  refine ⟨?_, areBytes_drop h.bd m, by simp; omega, ?_, by have := h.len; simp; omega⟩
  · rcases ha with rfl | ⟨e, rfl⟩
    · exact bts_drop h.bts
    · exact .inl (List.eq_nil_of_length_eq_zero (by simp; omega))
  · rintro rfl
    rcases ha with h | ⟨_, h⟩ <;> cases h
theorem slice_some {w : World} {a : Option Addr} {c : Nat} {rs : List Int} (h : Slice w a c rs) (hp : 0 < rs.length) : ∃ b off, a = some ⟨b, off, none⟩ ∧ ∀ i, i < rs.length → w.cell? ⟨b, off + i, none⟩ = some (.int .u8 (rs.getD i 0)) := by
  rcases h.bts with e | ⟨b, off, e, hc⟩
  · subst e; simp at hp
  · exact ⟨b, off, e, hc⟩
/-- How a call ends that tells a list. -/
def ListEnd {α : Type} (f : α → List Value) (w : World) (l : List α) (e : Ending) (w' : World) : Prop := ∃ a cp, e = .returned (.slice a l.length cp) ∧ Lies w' a (cellsOf f l) ∧ (a = none → cp = 0) ∧ Far w.heap.size a ∧ Below w.heap.size w w'
theorem list_end {α : Type} {f : α → List Value} {w w' : World} {l : List α} {e size : Nat} {v : Value} (h : w'.ownsRow w.heap.size e size v l.length (cellsOf f l)) (hb : Below w.heap.size w w') (h0 : l.length = 0 → cellsOf f l = []) : ListEnd f w l (.returned v) w' := by
  rcases h.2 with ⟨h', hn⟩ | ⟨g', cap', cur, h', _⟩
  · refine ⟨none, 0, by rw [h', hn], .inl (h0 hn), fun _ => rfl, (fun _ hx => by cases hx), hb⟩
  · refine ⟨some ⟨g', 0, none⟩, cap', by rw [h'], ?_, (fun h => by cases h), ?_, hb⟩
    rotate_left
    · intro x hx; cases hx; exact (World.ownsRow.lt h g' (by rw [h']; rfl)).1
    subst h'
    exact owns_lies h
theorem row_below {w w' : World} {base e size n : Nat} {v : Value} {xs : List Value} (h : w.ownsRow base e size v n xs) (hb : Below w.heap.size w w') : w'.ownsRow base e size v n xs := by
  rcases h.2 with ⟨h', h0⟩ | ⟨g', cap', cur, h', hbg, hg, r⟩
  · exact ⟨h.1, .inl ⟨h', h0⟩⟩
  · have hlt := World.ownsRow.lt h g' (by rw [h']; rfl)
    exact ⟨h.1, .inr ⟨g', cap', cur, h', hbg, by rw [hb.block _ hlt.2]; exact hg, r⟩⟩
theorem lies_new (w : World) (vs : List Value) (t : TypeId) : Lies (w.alloc (.cells vs.toArray t)) (some ⟨w.heap.size, 0, none⟩) vs :=
  .inr ⟨_, _, rfl, fun i hi => by have h := (var_new w vs t).cell i (List.getElem?_eq_getElem hi); rw [Nat.zero_add]; rw [h]; simp [hi]⟩
theorem cells_none {α : Type} (f : α → List Value) {l : List α} (h : l.length = 0) : cellsOf f l = [] := by rw [List.eq_nil_of_length_eq_zero h]; rfl
theorem cells_take {α : Type} (f : α → List Value) (l : List α) (k : Nat) (hk : k < l.length) : cellsOf f (l.take (k + 1)) = cellsOf f (l.take k) ++ f l[k] := by
  unfold cellsOf; rw [← List.take_append_getElem hk, List.flatMap_append]; simp
set_option maxHeartbeats 3200000 in
set_option maxRecDepth 20000 in
theorem readLinks_any (a : Option Addr) (n cap : Nat) (zs : List Int) (w : World) (hn : n = zs.length) (hS : Slice w a cap zs) (hl : zs.length ≤ 1000000) :
    Calls Tryd.prog 87 #[.slice a n cap, .int .i64 12, .func (.func 88) #[] #[]] w (ListEnd linkC w (readL 12 readLZ zs)) := by
  obtain ⟨i, hi, hz0, hz1, hz2⟩ := info_parts info_link
  have HI : Hid (Tryd.prog.info? 68 = some i) := hi
  have H0 : Hid (_ = _) := hz0
  have H1 : Hid (_ = _) := hz1
  have H2 : Hid (_ = _) := hz2
  have HS0 : Hid (Slice w a cap zs) := hS
  have HN0 : Hid (n = zs.length) := hn
  have HLL : Hid ((readL 12 readLZ zs).length = zs.length / 12) := readL_length _ _ _
  have HLA : Hid (∀ k (h : k < (readL 12 readLZ zs).length), (readL 12 readLZ zs)[k] = readLZ (zs.drop (k * 12))) := readL_at _ _ _
  clear hS hn hi hz0 hz1 hz2
  generalize readL 12 readLZ zs = L at *
  go_enter Tryd.func87, Tryd.ntmps87
  go_wp2_with fail
  go_loopw [0, 7] (fun u v wr => ∃ (k n' c' : Nat) (rs : List Int) (a' : Option Addr), u = .slice a' n' c' ∧ Hid (n' = rs.length) ∧ Hid (rs = zs.drop (k * 12)) ∧ Hid (Slice w a' c' rs) ∧ Hid (wr.ownsRow w.heap.size 68 4 v k (cellsOf linkC (L.take k))) ∧ Hid (k ≤ zs.length / 12) ∧ Hid (Below w.heap.size w wr)) (fun u _ _ => lenOf u)
  case atStart => exact ⟨0, n, cap, zs, a, rfl, HN0.out, by show _ = _; simp, HS0.out, ⟨by simp [cellsOf], .inl ⟨rfl, rfl⟩⟩, Nat.zero_le _, Below.refl _ _⟩
  case round =>
    obtain ⟨k, n', c', rs, a', rfl, hn', hrs, hs, ho, hk, hb⟩ := hrel
    by_cases hlt : n' < 12
    · have hend : k = L.length := by
        rw [HLL.out]; exact readL_end (by rw [← hrs.out, ← hn'.out]; exact hlt) hk.out
      have HEND : Hid (ListEnd linkC w L (.returned u7) wr) := by
        have h1 := ho.out
        rw [hend, List.take_length] at h1
        exact list_end h1 hb.out (cells_none linkC)
      clear hend
      go_wp2
      go_ret
      exact HEND.out
    · have hkl : k < L.length := by rw [HLL.out]; exact readL_more (by decide) (by rw [← hrs.out, ← hn'.out]; omega)
      obtain ⟨b, off, rfl, hcell⟩ := slice_some (hs.out.below hb.out) (by rw [← hn'.out]; omega)
      have hroom := hs.out.room
      rw [← hn'.out] at hroom
      have HC : Hid (∀ i, i < 12 → wr.cell? ⟨b, off + i, none⟩ = some (.int .u8 (rs.getD i 0))) := fun i hi => hcell i (by rw [← hn'.out]; omega)
      have HZ : Hid (AreBytes rs) := hs.out.bd
      have HF : Hid (L[k] = readLZ rs) := by show _ = _; rw [HLA.out k hkl, ← hrs.out]
      have hbound : k < 1000000 := by have := hk.out; have := HLL.out; have : zs.length / 12 ≤ zs.length := Nat.div_le_self _ _; omega
      have hneg : ¬ c' < 12 := by omega
      clear hcell
      go_wp2_with fail
      refine (readLink_any b off c' rs wr HC.out HZ.out (by omega)).mono ?_
      rintro e w1 ⟨rfl, hb1⟩
      obtain ⟨q, hq⟩ : ∃ q, readLZ rs = q := ⟨_, rfl⟩
      have HQ : Hid (L[k] = q) := by show _ = _; rw [HF.out, hq]
      rw [hq]
      clear hq HF
      have HO1 : Hid (w1.ownsRow w.heap.size 68 4 u7 k (cellsOf linkC (L.take k))) := row_below ho.out hb1
      have HB1 : Hid (Below w.heap.size w w1) := below_more hb.out hb1 hb.out.size
      clear hb1 ho hb HC
      rw [show (linkC q).toArray = #[.int .i64 q.kind, .int .i64 q.id, .int .i64 q.data, .int .i64 q.cost] from rfl]

      have HB2 : Hid (Below w.heap.size w (w1.alloc (.cells #[.int .i64 q.kind, .int .i64 q.id, .int .i64 q.data, .int .i64 q.cost] 68))) := HB1.out.alloc HB1.out.size _
      have HO2 : Hid ((w1.alloc (.cells #[.int .i64 q.kind, .int .i64 q.id, .int .i64 q.data, .int .i64 q.cost] 68)).ownsRow w.heap.size 68 4 u7 k (cellsOf linkC (L.take k))) := row_below HO1.out (below_new' _ _)
      have HL2 : Hid (Lies (w1.alloc (.cells #[.int .i64 q.kind, .int .i64 q.id, .int .i64 q.data, .int .i64 q.cost] 68)) (some ⟨w1.heap.size, 0, none⟩) (linkC q)) := lies_new w1 (linkC q) _
      clear HO1 HB1
      go_wp2_with (at_builtin; go_must (refine wp_append_thing (w1.alloc (.cells #[.int .i64 q.kind, .int .i64 q.id, .int .i64 q.data, .int .i64 q.cost] 68)) rfl _ _ 24 rfl 68 i _ 4 32 Tryd.underlying24 HI.out H0.out H1.out H2.out rfl (by decide) w.heap.size u7 k _ rfl HO2.out _ _ (linkC q) rfl rfl HL2.out (fun u hu => by simp [linkC] at hu; rcases hu with rfl | rfl | rfl | rfl <;> rfl) (by unfold maxLen; omega) (by omega) HB2.out.size ?_))
      intro v' w2 ho2 hb2
      have HO3 : Hid (w2.ownsRow w.heap.size 68 4 v' (k + 1) (cellsOf linkC (L.take (k + 1)))) := by
        rw [cells_take linkC L k hkl, HQ.out]; exact ho2
      have HB3 : Hid (Below w.heap.size w w2) := HB2.out.trans hb2
      have HK3 : Hid (k + 1 ≤ zs.length / 12) := by show _ ≤ _; rw [← HLL.out]; exact hkl
      have HR3 : Hid (rs.drop 12 = zs.drop ((k + 1) * 12)) := by show _ = _; rw [hrs.out, drop_more]
      have HN3 : Hid (n' - 12 = (rs.drop 12).length) := by show _ = _; rw [hn'.out]; simp
      have hsn := slice_next hs.out (m := 12) (by rw [← hn'.out]; omega)
      have HSN : Hid (∀ a' : Option Addr, (a' = some ⟨b, off + 12, none⟩ ∨ c' = 12 ∧ a' = some ⟨b, off, none⟩) → Slice w a' (c' - 12) (rs.drop 12)) := hsn
      clear ho2 hb2 HO2 HL2 HB2 hsn HQ
      by_cases hc12 : c' = 12
      · go_wp2
        go_roundw
        case rel => exact ⟨k + 1, n' - 12, 0, rs.drop 12, _, rfl, HN3.out, HR3.out, (by have h := HSN.out (some ⟨b, off, none⟩) (.inr ⟨hc12, rfl⟩); rwa [show c' - 12 = 0 by omega] at h), HO3.out, HK3.out, HB3.out⟩
        case measure => simp [lenOf]; omega
      · go_wp2
        go_roundw
        case rel => exact ⟨k + 1, n' - 12, c' - 12, rs.drop 12, _, rfl, HN3.out, HR3.out, HSN.out _ (.inl rfl), HO3.out, HK3.out, HB3.out⟩
        case measure => simp [lenOf]; omega
end Go.Proofs.YtoanjhccbmifmaaDoor
/- Lists read from bytes: vertices, numbers. -/
namespace Go.Proofs.YtoanjhccbmifmaaDoor
open Go.RowKit

set_option maxHeartbeats 3200000 in
set_option maxRecDepth 20000 in
theorem readVerts_any (a : Option Addr) (n cap : Nat) (zs : List Int) (w : World) (hn : n = zs.length) (hS : Slice w a cap zs) (hl : zs.length ≤ 1000000) :
    Calls Tryd.prog 91 #[.slice a n cap, .int .i64 8, .func (.func 92) #[] #[]] w (ListEnd vertC w (readL 8 readVZ zs)) := by
  obtain ⟨i, hi, hz0, hz1, hz2⟩ := info_parts info_vert
  have HI : Hid (Tryd.prog.info? 58 = some i) := hi
  have H0 : Hid (_ = _) := hz0
  have H1 : Hid (_ = _) := hz1
  have H2 : Hid (_ = _) := hz2
  have HS0 : Hid (Slice w a cap zs) := hS
  have HN0 : Hid (n = zs.length) := hn
  have HLL : Hid ((readL 8 readVZ zs).length = zs.length / 8) := readL_length _ _ _
  have HLA : Hid (∀ k (h : k < (readL 8 readVZ zs).length), (readL 8 readVZ zs)[k] = readVZ (zs.drop (k * 8))) := readL_at _ _ _
  clear hS hn hi hz0 hz1 hz2
  generalize readL 8 readVZ zs = L at *
  go_enter Tryd.func91, Tryd.ntmps91
  go_wp2_with fail
  go_loopw [0, 7] (fun u v wr => ∃ (k n' c' : Nat) (rs : List Int) (a' : Option Addr), u = .slice a' n' c' ∧ Hid (n' = rs.length) ∧ Hid (rs = zs.drop (k * 8)) ∧ Hid (Slice w a' c' rs) ∧ Hid (wr.ownsRow w.heap.size 58 2 v k (cellsOf vertC (L.take k))) ∧ Hid (k ≤ zs.length / 8) ∧ Hid (Below w.heap.size w wr)) (fun u _ _ => lenOf u)
  case atStart => exact ⟨0, n, cap, zs, a, rfl, HN0.out, by show _ = _; simp, HS0.out, ⟨by simp [cellsOf], .inl ⟨rfl, rfl⟩⟩, Nat.zero_le _, Below.refl _ _⟩
  case round =>
    obtain ⟨k, n', c', rs, a', rfl, hn', hrs, hs, ho, hk, hb⟩ := hrel
    by_cases hlt : n' < 8
    · have hend : k = L.length := by
        rw [HLL.out]; exact readL_end (by rw [← hrs.out, ← hn'.out]; exact hlt) hk.out
      have HEND : Hid (ListEnd vertC w L (.returned u7) wr) := by
        have h1 := ho.out
        rw [hend, List.take_length] at h1
        exact list_end h1 hb.out (cells_none vertC)
      clear hend
      go_wp2
      go_ret
      exact HEND.out
    · have hkl : k < L.length := by rw [HLL.out]; exact readL_more (by decide) (by rw [← hrs.out, ← hn'.out]; omega)
      obtain ⟨b, off, rfl, hcell⟩ := slice_some (hs.out.below hb.out) (by rw [← hn'.out]; omega)
      have hroom := hs.out.room
      rw [← hn'.out] at hroom
      have HC : Hid (∀ i, i < 8 → wr.cell? ⟨b, off + i, none⟩ = some (.int .u8 (rs.getD i 0))) := fun i hi => hcell i (by rw [← hn'.out]; omega)
      have HZ : Hid (AreBytes rs) := hs.out.bd
      have HF : Hid (L[k] = readVZ rs) := by show _ = _; rw [HLA.out k hkl, ← hrs.out]
      have hbound : k < 1000000 := by have := hk.out; have := HLL.out; have : zs.length / 8 ≤ zs.length := Nat.div_le_self _ _; omega
      have hneg : ¬ c' < 8 := by omega
      clear hcell
      go_wp2_with fail
      refine (readVert_any b off c' rs wr HC.out HZ.out (by omega)).mono ?_
      rintro e w1 ⟨rfl, hb1⟩
      obtain ⟨q, hq⟩ : ∃ q, readVZ rs = q := ⟨_, rfl⟩
      have HQ : Hid (L[k] = q) := by show _ = _; rw [HF.out, hq]
      rw [hq]
      clear hq HF
      have HO1 : Hid (w1.ownsRow w.heap.size 58 2 u7 k (cellsOf vertC (L.take k))) := row_below ho.out hb1
      have HB1 : Hid (Below w.heap.size w w1) := below_more hb.out hb1 hb.out.size
      clear hb1 ho hb HC
      rw [show (vertC q).toArray = #[.int .i64 q.kind, .int .i64 q.id] from rfl]

      have HB2 : Hid (Below w.heap.size w (w1.alloc (.cells #[.int .i64 q.kind, .int .i64 q.id] 58))) := HB1.out.alloc HB1.out.size _
      have HO2 : Hid ((w1.alloc (.cells #[.int .i64 q.kind, .int .i64 q.id] 58)).ownsRow w.heap.size 58 2 u7 k (cellsOf vertC (L.take k))) := row_below HO1.out (below_new' _ _)
      have HL2 : Hid (Lies (w1.alloc (.cells #[.int .i64 q.kind, .int .i64 q.id] 58)) (some ⟨w1.heap.size, 0, none⟩) (vertC q)) := lies_new w1 (vertC q) _
      clear HO1 HB1
      go_wp2_with (at_builtin; go_must (refine wp_append_thing (w1.alloc (.cells #[.int .i64 q.kind, .int .i64 q.id] 58)) rfl _ _ 26 rfl 58 i _ 2 16 Tryd.underlying26 HI.out H0.out H1.out H2.out rfl (by decide) w.heap.size u7 k _ rfl HO2.out _ _ (vertC q) rfl rfl HL2.out (fun u hu => by simp [vertC] at hu; rcases hu with rfl | rfl <;> rfl) (by unfold maxLen; omega) (by omega) HB2.out.size ?_))
      intro v' w2 ho2 hb2
      have HO3 : Hid (w2.ownsRow w.heap.size 58 2 v' (k + 1) (cellsOf vertC (L.take (k + 1)))) := by
        rw [cells_take vertC L k hkl, HQ.out]; exact ho2
      have HB3 : Hid (Below w.heap.size w w2) := HB2.out.trans hb2
      have HK3 : Hid (k + 1 ≤ zs.length / 8) := by show _ ≤ _; rw [← HLL.out]; exact hkl
      have HR3 : Hid (rs.drop 8 = zs.drop ((k + 1) * 8)) := by show _ = _; rw [hrs.out, drop_more]
      have HN3 : Hid (n' - 8 = (rs.drop 8).length) := by show _ = _; rw [hn'.out]; simp
      have hsn := slice_next hs.out (m := 8) (by rw [← hn'.out]; omega)
      have HSN : Hid (∀ a' : Option Addr, (a' = some ⟨b, off + 8, none⟩ ∨ c' = 8 ∧ a' = some ⟨b, off, none⟩) → Slice w a' (c' - 8) (rs.drop 8)) := hsn
      clear ho2 hb2 HO2 HL2 HB2 hsn HQ
      by_cases hc8 : c' = 8
      · go_wp2
        go_roundw
        case rel => exact ⟨k + 1, n' - 8, 0, rs.drop 8, _, rfl, HN3.out, HR3.out, (by have h := HSN.out (some ⟨b, off, none⟩) (.inr ⟨hc8, rfl⟩); rwa [show c' - 8 = 0 by omega] at h), HO3.out, HK3.out, HB3.out⟩
        case measure => simp [lenOf]; omega
      · go_wp2
        go_roundw
        case rel => exact ⟨k + 1, n' - 8, c' - 8, rs.drop 8, _, rfl, HN3.out, HR3.out, HSN.out _ (.inl rfl), HO3.out, HK3.out, HB3.out⟩
        case measure => simp [lenOf]; omega
def readIZ (zs : List Int) : Int := num4At zs 0
set_option maxHeartbeats 3200000 in
set_option maxRecDepth 20000 in
theorem readInts_any (a : Option Addr) (n cap : Nat) (zs : List Int) (w : World) (hn : n = zs.length) (hS : Slice w a cap zs) (hl : zs.length ≤ 1000000) :
    Calls Tryd.prog 90 #[.slice a n cap, .int .i64 4, .func (.func 74) #[] #[]] w (ListEnd intC w (readL 4 readIZ zs)) := by
  obtain ⟨i, hi, hz0, hz1, hz2⟩ := info_parts info_int
  have HI : Hid (Tryd.prog.info? 3 = some i) := hi
  have H0 : Hid (_ = _) := hz0
  have H1 : Hid (_ = _) := hz1
  have H2 : Hid (_ = _) := hz2
  have HS0 : Hid (Slice w a cap zs) := hS
  have HN0 : Hid (n = zs.length) := hn
  have HLL : Hid ((readL 4 readIZ zs).length = zs.length / 4) := readL_length _ _ _
  have HLA : Hid (∀ k (h : k < (readL 4 readIZ zs).length), (readL 4 readIZ zs)[k] = readIZ (zs.drop (k * 4))) := readL_at _ _ _
  clear hS hn hi hz0 hz1 hz2
  generalize readL 4 readIZ zs = L at *
  go_enter Tryd.func90, Tryd.ntmps90
  go_wp2_with fail
  go_loopw [0, 7] (fun u v wr => ∃ (k n' c' : Nat) (rs : List Int) (a' : Option Addr), u = .slice a' n' c' ∧ Hid (n' = rs.length) ∧ Hid (rs = zs.drop (k * 4)) ∧ Hid (Slice w a' c' rs) ∧ Hid (wr.ownsRow w.heap.size 3 1 v k (cellsOf intC (L.take k))) ∧ Hid (k ≤ zs.length / 4) ∧ Hid (Below w.heap.size w wr)) (fun u _ _ => lenOf u)
  case atStart => exact ⟨0, n, cap, zs, a, rfl, HN0.out, by show _ = _; simp, HS0.out, ⟨by simp [cellsOf], .inl ⟨rfl, rfl⟩⟩, Nat.zero_le _, Below.refl _ _⟩
  case round =>
    obtain ⟨k, n', c', rs, a', rfl, hn', hrs, hs, ho, hk, hb⟩ := hrel
    by_cases hlt : n' < 4
    · have hend : k = L.length := by
        rw [HLL.out]; exact readL_end (by rw [← hrs.out, ← hn'.out]; exact hlt) hk.out
      have HEND : Hid (ListEnd intC w L (.returned u7) wr) := by
        have h1 := ho.out
        rw [hend, List.take_length] at h1
        exact list_end h1 hb.out (cells_none intC)
      clear hend
      go_wp2
      go_ret
      exact HEND.out
    · have hkl : k < L.length := by rw [HLL.out]; exact readL_more (by decide) (by rw [← hrs.out, ← hn'.out]; omega)
      obtain ⟨b, off, rfl, hcell⟩ := slice_some (hs.out.below hb.out) (by rw [← hn'.out]; omega)
      have hroom := hs.out.room
      rw [← hn'.out] at hroom
      have HC : Hid (∀ i, i < 4 → wr.cell? ⟨b, off + i, none⟩ = some (.int .u8 (rs.getD i 0))) := fun i hi => hcell i (by rw [← hn'.out]; omega)
      have HZ : Hid (AreBytes rs) := hs.out.bd
      have HF : Hid (L[k] = readIZ rs) := by show _ = _; rw [HLA.out k hkl, ← hrs.out]
      have hbound : k < 1000000 := by have := hk.out; have := HLL.out; have : zs.length / 4 ≤ zs.length := Nat.div_le_self _ _; omega
      have hneg : ¬ c' < 4 := by omega
      clear hcell
      go_wp2_with fail
      refine (wnum_4 b off 4 c' 0 off rs wr rfl HC.out HZ.out (by omega)).mono ?_
      rintro e w1 ⟨rfl, hw1⟩
      subst hw1
      obtain ⟨q, hq⟩ : ∃ q, num4At rs 0 = q := ⟨_, rfl⟩
      have HQ : Hid (L[k] = q) := by show _ = _; rw [HF.out]; exact hq
      rw [hq]
      clear hq HF
      have HO1 : Hid (w1.ownsRow w.heap.size 3 1 u7 k (cellsOf intC (L.take k))) := ho.out
      have HB1 : Hid (Below w.heap.size w w1) := hb.out
      clear ho hb HC

      have HB2 : Hid (Below w.heap.size w (w1.alloc (.cells #[.int .i64 q] 3))) := HB1.out.alloc HB1.out.size _
      have HO2 : Hid ((w1.alloc (.cells #[.int .i64 q] 3)).ownsRow w.heap.size 3 1 u7 k (cellsOf intC (L.take k))) := row_below HO1.out (below_new' _ _)
      have HL2 : Hid (Lies (w1.alloc (.cells #[.int .i64 q] 3)) (some ⟨w1.heap.size, 0, none⟩) (intC q)) := lies_new w1 (intC q) _
      clear HO1 HB1
      go_wp2_with (at_builtin; go_must (refine wp_append_thing (w1.alloc (.cells #[.int .i64 q] 3)) rfl _ _ 25 rfl 3 i _ 1 8 Tryd.underlying25 HI.out H0.out H1.out H2.out rfl (by decide) w.heap.size u7 k _ rfl HO2.out _ _ (intC q) rfl rfl HL2.out (fun u hu => by simp [intC] at hu; subst hu; rfl) (by unfold maxLen; omega) (by omega) HB2.out.size ?_))
      intro v' w2 ho2 hb2
      have HO3 : Hid (w2.ownsRow w.heap.size 3 1 v' (k + 1) (cellsOf intC (L.take (k + 1)))) := by
        rw [cells_take intC L k hkl, HQ.out]; exact ho2
      have HB3 : Hid (Below w.heap.size w w2) := HB2.out.trans hb2
      have HK3 : Hid (k + 1 ≤ zs.length / 4) := by show _ ≤ _; rw [← HLL.out]; exact hkl
      have HR3 : Hid (rs.drop 4 = zs.drop ((k + 1) * 4)) := by show _ = _; rw [hrs.out, drop_more]
      have HN3 : Hid (n' - 4 = (rs.drop 4).length) := by show _ = _; rw [hn'.out]; simp
      have hsn := slice_next hs.out (m := 4) (by rw [← hn'.out]; omega)
      have HSN : Hid (∀ a' : Option Addr, (a' = some ⟨b, off + 4, none⟩ ∨ c' = 4 ∧ a' = some ⟨b, off, none⟩) → Slice w a' (c' - 4) (rs.drop 4)) := hsn
      clear ho2 hb2 HO2 HL2 HB2 hsn HQ
      by_cases hc4 : c' = 4
      · go_wp2
        go_roundw
        case rel => exact ⟨k + 1, n' - 4, 0, rs.drop 4, _, rfl, HN3.out, HR3.out, (by have h := HSN.out (some ⟨b, off, none⟩) (.inr ⟨hc4, rfl⟩); rwa [show c' - 4 = 0 by omega] at h), HO3.out, HK3.out, HB3.out⟩
        case measure => simp [lenOf]; omega
      · go_wp2
        go_roundw
        case rel => exact ⟨k + 1, n' - 4, c' - 4, rs.drop 4, _, rfl, HN3.out, HR3.out, HSN.out _ (.inl rfl), HO3.out, HK3.out, HB3.out⟩
        case measure => simp [lenOf]; omega
end Go.Proofs.YtoanjhccbmifmaaDoor
