/- What bytes are as a datagram: the walk of read. -/
import Derived.Test.YtknpgpmckabmbaaDoorS3W7
import Derived.Test.YtknpgpmckabmbaaDoorS3W8
import Derived.Deep.CutRange
import Derived.Handy
namespace Go.Proofs.YtknpgpmckabmbaaDoor
open Go.RowKit

theorem Bts.cells {w : World} {b off : Nat} {zs : List Int} (h : Bts w (some ⟨b, off, none⟩) zs) : ∀ i, i < zs.length → w.cell? ⟨b, off + i, none⟩ = some (.int .u8 (zs.getD i 0)) := by
  intro i hi
  rcases h with h | ⟨b', off', e, hc⟩
  · subst h; simp at hi
  · cases e; exact hc i hi
theorem Bts.dropAt {w : World} {b off : Nat} {zs : List Int} (h : Bts w (some ⟨b, off, none⟩) zs) (k : Nat) : Bts w (some ⟨b, off + k, none⟩) (zs.drop k) := by
  refine .inr ⟨b, off + k, rfl, fun i hi => ?_⟩
  have hi' : k + i < zs.length := by simp at hi; omega
  have := h.cells (k + i) hi'
  rw [show off + k + i = off + (k + i) by omega, this]
  simp [List.getD_eq_getElem?_getD]
theorem Bts.drop {w : World} {b off cap : Nat} {zs : List Int} (h : Bts w (some ⟨b, off, none⟩) zs) (k : Nat) (hc : zs.length ≤ cap) : Bts w (if cap = k then some ⟨b, off, none⟩ else some ⟨b, off + k, none⟩) (zs.drop k) := by
  by_cases e : cap = k
  · exact .inl (List.drop_eq_nil_of_le (by omega))
  · rw [if_neg e]; exact h.dropAt k
theorem Bts.take {w : World} {a : Option Addr} {zs : List Int} (h : Bts w a zs) (k : Nat) : Bts w a (zs.take k) := by
  have h' : Bts w a (zs.take k ++ zs.drop k) := by rw [List.take_append_drop]; exact h
  exact h'.left

theorem below_two_new (w : World) (o o' : Obj) : Below w.heap.size w ((w.alloc o).alloc o') := ((Below.refl _ _).alloc (Nat.le_refl _) _).alloc (by simp) _
set_option maxHeartbeats 1600000 in
theorem read_short (a : Option Addr) (n cap : Nat) (w : World) (hn : n < 20) :
    Calls Tryd.prog 21 #[.slice a n cap] w fun e w' => (∃ v, e = .returned (.tuple #[.agg #[.int .i64 0, .int .i64 0, .int .i64 0, .int .i64 0, .slice none 0 0], v]) ∧ isFault 2 v) ∧ Below w.heap.size w w' := by
  go_enter Tryd.func21, Tryd.ntmps21
  go_wp2
  go_returns
  exact ⟨⟨_, rfl, .inr ⟨by decide, _, rfl⟩⟩, below_two_new _ _ _⟩
set_option maxHeartbeats 1600000 in
theorem read_long (b off n cap : Nat) (w : World) (hn : 1044 < n) (hc : n ≤ cap) :
    Calls Tryd.prog 21 #[.slice (some ⟨b, off, none⟩) n cap] w fun e w' => (∃ v, e = .returned (.tuple #[.agg #[.int .i64 0, .int .i64 0, .int .i64 0, .int .i64 0, .slice none 0 0], v]) ∧ isFault 3 v) ∧ Below w.heap.size w w' := by
  go_enter Tryd.func21, Tryd.ntmps21
  go_wp2
  go_returns
  exact ⟨⟨_, rfl, .inr ⟨by decide, _, rfl⟩⟩, below_two_new _ _ _⟩

/-- What the region that reads a datagram keeps: the two bytes that it loads itself, and all that was there. -/
theorem keep_two {w W W' : World} {p q : Addr} {x y : Value} (h : W.cell? p = some x ∧ W.cell? q = some y ∧ Hid (Below w.heap.size w W)) (hp : p.block < w.heap.size) (hq : q.block < w.heap.size) (hb : Below w.heap.size W W') :
    W'.cell? p = some x ∧ W'.cell? q = some y ∧ Hid (Below w.heap.size w W') :=
  ⟨by rw [hb.cell hp]; exact h.1, by rw [hb.cell hq]; exact h.2.1, h.2.2.out.trans hb⟩

theorem keep_drew {w W : World} {p q : Addr} {x y : Value} (h : W.cell? p = some x ∧ W.cell? q = some y ∧ Hid (Below w.heap.size w W)) :
    W.drew.cell? p = some x ∧ W.drew.cell? q = some y ∧ Hid (Below w.heap.size w W.drew) := ⟨h.1, h.2.1, h.2.2.out.drew⟩
theorem keep_five {w W : World} {p q : Addr} {x y v0 v1 v2 v3 v4 : Value} {g : Nat} (h : W.cell? p = some x ∧ W.cell? q = some y ∧ Hid (Below w.heap.size w W)) (hp : p.block < w.heap.size) (hq : q.block < w.heap.size) (hg : w.heap.size ≤ g) :
    (((((W.setCell ⟨g, 0, none⟩ v0).setCell ⟨g, 1, none⟩ v1).setCell ⟨g, 2, none⟩ v2).setCell ⟨g, 3, none⟩ v3).setCell ⟨g, 4, none⟩ v4).cell? p = some x ∧ (((((W.setCell ⟨g, 0, none⟩ v0).setCell ⟨g, 1, none⟩ v1).setCell ⟨g, 2, none⟩ v2).setCell ⟨g, 3, none⟩ v3).setCell ⟨g, 4, none⟩ v4).cell? q = some y ∧ Hid (Below w.heap.size w (((((W.setCell ⟨g, 0, none⟩ v0).setCell ⟨g, 1, none⟩ v1).setCell ⟨g, 2, none⟩ v2).setCell ⟨g, 3, none⟩ v3).setCell ⟨g, 4, none⟩ v4)) :=
  keep_two h hp hq (((((Below.refl _ _).setCell (p := ⟨g, 0, none⟩) hg _).setCell (p := ⟨g, 1, none⟩) hg _).setCell (p := ⟨g, 2, none⟩) hg _).setCell (p := ⟨g, 3, none⟩) hg _ |>.setCell (p := ⟨g, 4, none⟩) hg _)
theorem store5_below {w W : World} {v0 v1 v2 v3 v4 : Value} {g : Nat} (h : Below w.heap.size w W.drew) (hg : w.heap.size ≤ g) :
    Below w.heap.size w (((((W.setCell ⟨g, 0, none⟩ v0).setCell ⟨g, 1, none⟩ v1).setCell ⟨g, 2, none⟩ v2).setCell ⟨g, 3, none⟩ v3).setCell ⟨g, 4, none⟩ v4) := by
  have h' : Below w.heap.size w W := ⟨h.os, h.tape, h.output, h.size, h.block⟩
  exact ((((h'.setCell (p := ⟨g, 0, none⟩) hg _).setCell (p := ⟨g, 1, none⟩) hg _).setCell (p := ⟨g, 2, none⟩) hg _).setCell (p := ⟨g, 3, none⟩) hg _).setCell (p := ⟨g, 4, none⟩) hg _
def numAt (zs : List Int) (k : Nat) : Int := num4 (zs.getD k 0) (zs.getD (k + 1) 0) (zs.getD (k + 2) 0) (zs.getD (k + 3) 0)
theorem number_at (b off n cap k : Nat) (zs : List Int) (W : World) (hc : ∀ i, i < n → W.cell? ⟨b, off + i, none⟩ = some (.int .u8 (zs.getD i 0))) (hz : AreBytes zs) (hk : k + 4 ≤ n) :
    Calls Tryd.prog 31 #[.slice (some ⟨b, off + k, none⟩) 4 cap] W fun e w' => e = .returned (.int .i64 (numAt zs k)) ∧ w' = W :=
  number_four b (off + k) cap _ _ _ _ W (hc k (by omega)) (hc (k + 1) (by omega)) (hc (k + 2) (by omega)) (hc (k + 3) (by omega)) (areBytes_getD hz _) (areBytes_getD hz _) (areBytes_getD hz _) (areBytes_getD hz _)
theorem keep_new {w W : World} {p q : Addr} {x y : Value} (h : W.cell? p = some x ∧ W.cell? q = some y ∧ Hid (Below w.heap.size w W)) (hp : p.block < w.heap.size) (hq : q.block < w.heap.size) (o : Obj) :
    (W.alloc o).cell? p = some x ∧ (W.alloc o).cell? q = some y ∧ Hid (Below w.heap.size w (W.alloc o)) :=
  keep_two h hp hq ((Below.refl _ _).alloc h.2.2.out.size _)

theorem bts_set {W : World} {a : Option Addr} {xs : List Int} {g i : Nat} {v : Value} (h : Bts W a xs) (hne : ∀ ad, a = some ad → g < ad.block) : Bts (W.setCell ⟨g, i, none⟩ v) a xs := by
  rcases h with h | ⟨b, off, rfl, hc⟩
  · exact .inl h
  · refine .inr ⟨b, off, rfl, fun j hj => ?_⟩
    have hb : g < b := hne _ rfl
    rw [World.cell?_setCell_other _ _ _ _ (by intro e; cases e; omega)]
    exact hc j hj
theorem cell_ne (W : World) {g i j : Nat} {v : Value} (h : i ≠ j) : (W.setCell ⟨g, i, none⟩ v).cell? ⟨g, j, none⟩ = W.cell? ⟨g, j, none⟩ := World.cell?_setCell_other _ _ _ _ (by intro e; cases e; exact h rfl)
theorem cell_eq {W : World} {p : Addr} {u v : Value} (h : W.cell? p = some u) : (W.setCell p v).cell? p = some v := World.cell?_setCell_same _ _ _ h
theorem box_set {W : World} {g : Nat} {t p s d : Int} {v u0 u1 u2 u3 u4 : Value} (h0 : W.cell? ⟨g, 0, none⟩ = some u0) (h1 : W.cell? ⟨g, 1, none⟩ = some u1) (h2 : W.cell? ⟨g, 2, none⟩ = some u2) (h3 : W.cell? ⟨g, 3, none⟩ = some u3) (h4 : W.cell? ⟨g, 4, none⟩ = some u4) :
    Box (((((W.setCell ⟨g, 0, none⟩ (.int .i64 t)).setCell ⟨g, 1, none⟩ (.int .i64 p)).setCell ⟨g, 2, none⟩ (.int .i64 s)).setCell ⟨g, 3, none⟩ (.int .i64 d)).setCell ⟨g, 4, none⟩ v) g t p s d v := by
  constructor
  · rw [cell_ne _ (by decide), cell_ne _ (by decide), cell_ne _ (by decide), cell_ne _ (by decide), cell_eq h0]
  · rw [cell_ne _ (by decide), cell_ne _ (by decide), cell_ne _ (by decide), cell_eq (u := u1) (by rw [cell_ne _ (by decide)]; exact h1)]
  · rw [cell_ne _ (by decide), cell_ne _ (by decide), cell_eq (u := u2) (by rw [cell_ne _ (by decide), cell_ne _ (by decide)]; exact h2)]
  · rw [cell_ne _ (by decide), cell_eq (u := u3) (by rw [cell_ne _ (by decide), cell_ne _ (by decide), cell_ne _ (by decide)]; exact h3)]
  · rw [cell_eq (u := u4) (by rw [cell_ne _ (by decide), cell_ne _ (by decide), cell_ne _ (by decide), cell_ne _ (by decide)]; exact h4)]
theorem Box.lt {w : World} {b : Nat} {t p s d : Int} {v : Value} (h : Box w b t p s d v) : b < w.heap.size := by
  rcases Nat.lt_or_ge b w.heap.size with h' | h'
  · exact h'
  · have := h.t0; simp [World.cell?, Array.getElem?_eq_none h'] at this
/-- What stands behind the region: the datagram in a variable of its own. -/
def Got (W : World) (zs : List Int) (n g : Nat) (a' : Option Addr) (cp' : Nat) (wx : World) : Prop :=
  Box wx g (getT zs) (getP zs) (getS zs) (getA zs) (.slice a' (n - 20) cp') ∧ Bts wx a' (zs.drop 20) ∧ (a' = none → cp' = 0) ∧ n - 20 ≤ cp' ∧ (∀ ad, a' = some ad → W.heap.size ≤ ad.block) ∧ Below W.heap.size W wx
/-- How a call of read ends. -/
def ReadEnd (N : Nat) (zs : List Int) (n : Nat) (e : Ending) (w' : World) : Prop :=
  (getE zs = 0 ∧ ∃ a' cp', e = .returned (.tuple #[.agg #[.int .i64 (getT zs), .int .i64 (getP zs), .int .i64 (getS zs), .int .i64 (getA zs), .slice a' (n - 20) cp'], .nilIface]) ∧ Bts w' a' (zs.drop 20) ∧ (a' = none → cp' = 0) ∧ n - 20 ≤ cp' ∧ (∀ ad, a' = some ad → N ≤ ad.block)) ∨
  (getE zs ≠ 0 ∧ ∃ v, e = .returned (.tuple #[.agg #[.int .i64 0, .int .i64 0, .int .i64 0, .int .i64 0, .slice none 0 0], v]) ∧ isFault (getE zs) v)
theorem wantZ_of {zs : List Int} {n : Nat} (hm : n = zs.length) (hn : 20 ≤ n) : ipZ (getT zs) (getP zs) (getS zs) (getA zs) ((n - 20 : Nat) : Int) = wantZ zs := by
  unfold wantZ; congr 1; omega
theorem getE_form {zs : List Int} (h1 : 20 ≤ zs.length) (h2 : zs.length ≤ 1044) (h : ¬ zs.take 8 = (wantZ zs).take 8) : getE zs = 3 := by
  unfold getE; rw [if_neg (by omega), if_neg (by omega), if_neg h]
theorem getE_sum {zs : List Int} (h1 : 20 ≤ zs.length) (h2 : zs.length ≤ 1044) (h : zs.take 8 = (wantZ zs).take 8) (h' : ¬ zs.take 20 = wantZ zs) : getE zs = 4 := by
  unfold getE; rw [if_neg (by omega), if_neg (by omega), if_pos h, if_neg h']
theorem getE_ok {zs : List Int} (h1 : 20 ≤ zs.length) (h2 : zs.length ≤ 1044) (h : zs.take 8 = (wantZ zs).take 8) (h' : zs.take 20 = wantZ zs) : getE zs = 0 := by
  unfold getE; rw [if_neg (by omega), if_neg (by omega), if_pos h, if_pos h']
theorem got_new {W w2 : World} {zs : List Int} {n cp' : Nat} {a' : Option Addr} (hk : Below W.drew.heap.size W.drew w2) (hb : Bts w2 a' (zs.drop 20)) (hn : a' = none → cp' = 0) (hc : n - 20 ≤ cp') (hf : ∀ ad, a' = some ad → W.drew.heap.size ≤ ad.block) :
    Got W zs n w2.heap.size a' cp' (w2.alloc (.cells #[.int .i64 (getT zs), .int .i64 (getP zs), .int .i64 (numAt zs 12), .int .i64 (numAt zs 16), .slice a' (n - 20) cp'] 24)) := by
  have h0 : Below W.heap.size W w2 := ((Below.refl _ _).drew).trans hk
  exact ⟨box_new w2 _ _ (getS zs) (getA zs) _, hb.below ((Below.refl _ _).alloc (Nat.le_refl _) _), hn, hc, hf, h0.alloc h0.size _⟩
theorem got_old {W w2 : World} {zs : List Int} {n cp' : Nat} {a' : Option Addr} (hk : Below (W.alloc (.cells #[.int .i64 0, .int .i64 0, .int .i64 0, .int .i64 0, .slice none 0 0] 24)).drew.heap.size (W.alloc (.cells #[.int .i64 0, .int .i64 0, .int .i64 0, .int .i64 0, .slice none 0 0] 24)).drew w2) (hb : Bts w2 a' (zs.drop 20)) (hn : a' = none → cp' = 0) (hc : n - 20 ≤ cp')
    (hf : ∀ ad, a' = some ad → (W.alloc (.cells #[.int .i64 0, .int .i64 0, .int .i64 0, .int .i64 0, .slice none 0 0] 24)).drew.heap.size ≤ ad.block) :
    Got W zs n W.heap.size a' cp' (((((w2.setCell ⟨W.heap.size, 0, none⟩ (.int .i64 (getT zs))).setCell ⟨W.heap.size, 1, none⟩ (.int .i64 (getP zs))).setCell ⟨W.heap.size, 2, none⟩ (.int .i64 (numAt zs 12))).setCell ⟨W.heap.size, 3, none⟩ (.int .i64 (numAt zs 16))).setCell ⟨W.heap.size, 4, none⟩ (.slice a' (n - 20) cp')) := by
  have hsz : (W.alloc (.cells #[.int .i64 0, .int .i64 0, .int .i64 0, .int .i64 0, .slice none 0 0] 24)).drew.heap.size = W.heap.size + 1 := by
    show (W.alloc _).heap.size = _; simp
  have h0 : Below W.heap.size W w2 := (((Below.refl _ _).alloc (Nat.le_refl _) _).drew).trans (hk.mono (by omega))
  have hX : Box w2 W.heap.size 0 0 0 0 (.slice none 0 0) := (box_new W 0 0 0 0 (.slice none 0 0)).below (((Below.refl _ _).drew).trans hk) (by omega)
  have hne : ∀ ad, a' = some ad → W.heap.size < ad.block := fun ad h => by have := hf ad h; omega
  refine ⟨box_set hX.t0 hX.p0 hX.s0 hX.d0 hX.v0, bts_set (bts_set (bts_set (bts_set (bts_set hb hne) hne) hne) hne) hne, hn, hc, fun ad h => Nat.le_of_lt (hne ad h), ?_⟩
  exact ((((h0.setCell (p := ⟨W.heap.size, 0, none⟩) (Nat.le_refl _) _).setCell (p := ⟨W.heap.size, 1, none⟩) (Nat.le_refl _) _).setCell (p := ⟨W.heap.size, 2, none⟩) (Nat.le_refl _) _).setCell (p := ⟨W.heap.size, 3, none⟩) (Nat.le_refl _) _).setCell (p := ⟨W.heap.size, 4, none⟩) (Nat.le_refl _) _

set_option maxHeartbeats 3200000 in
theorem read_main (b off n cap : Nat) (zs : List Int) (w : World) (hm : n = zs.length) (hB : Bts w (some ⟨b, off, none⟩) zs) (hz : AreBytes zs) (hn : 20 ≤ n) (hn2 : n ≤ 1044) (hc : n ≤ cap) :
    Calls Tryd.prog 21 #[.slice (some ⟨b, off, none⟩) n cap] w fun e w' => ReadEnd w.heap.size zs n e w' ∧ Below w.heap.size w w' := by
  have HM : Hid (n = zs.length) := hm
  have HC : Hid (∀ W, Below w.heap.size w W → ∀ i, i < n → W.cell? ⟨b, off + i, none⟩ = some (.int .u8 (zs.getD i 0))) := fun W hW i hi => (hB.below hW).cells i (by omega)
  have HBt : Hid (Bts w (some ⟨b, off, none⟩) zs) := hB
  have hblt : b < w.heap.size := by
    have := hB.cells 0 (by omega)
    rcases Nat.lt_or_ge b w.heap.size with h | h
    · exact h
    · simp [World.cell?, Array.getElem?_eq_none h] at this
  have B8 : 0 ≤ getT zs ∧ getT zs ≤ 255 := areBytes_getD hz 8
  have B9 : 0 ≤ getP zs ∧ getP zs ≤ 255 := areBytes_getD hz 9
  have HZ : Hid (AreBytes zs) := hz
  clear hm hB hz
  go_enter Tryd.func21, Tryd.ntmps21
  go_upto_region 7 with fail
  have hW := below_two_new w (Obj.cells #[.int .i64 0, .int .i64 0, .int .i64 0, .int .i64 0, .slice none 0 0] 24) (Obj.cells #[.int .i64 0, .int .i64 0, .int .i64 0, .int .i64 0, .slice none 0 0] 24)
  generalize hWe : (w.alloc (Obj.cells #[.int .i64 0, .int .i64 0, .int .i64 0, .int .i64 0, .slice none 0 0] 24)).alloc (Obj.cells #[.int .i64 0, .int .i64 0, .int .i64 0, .int .i64 0, .slice none 0 0] 24) = W at *
  have hD : ∀ W, Below w.heap.size w W → Bts W (if cap = 20 then some ⟨b, off, none⟩ else some ⟨b, off + 20, none⟩) (zs.drop 20) := fun W hW => (HBt.out.below hW).drop 20 (by have := HM.out; omega)
  have hDn : (if cap = 20 then some (⟨b, off, none⟩ : Addr) else some ⟨b, off + 20, none⟩) = none → cap - 20 = 0 := by split <;> simp
  generalize (if cap = 20 then some (⟨b, off, none⟩ : Addr) else some ⟨b, off + 20, none⟩) = ad at *
  have HD : Hid (∀ W, Below w.heap.size w W → Bts W ad (zs.drop 20)) := hD
  have HDn : Hid (ad = none → cap - 20 = 0) := hDn
  have HDl : Hid (n - 20 = (zs.drop 20).length) := by show _ = _; rw [List.length_drop, HM.out]
  have HDs : Hid ((zs.drop 20).length ≤ 140737488355328) := by show _ ≤ _; rw [← HDl.out]; omega
  clear hD hDn
  go_cut [6] from 24 (fun v wx => ∃ (g6 : Nat) (a' : Option Addr) (cp' : Nat), v = .pointer (some ⟨g6, 0, none⟩) ∧ Hid (Got W zs n g6 a' cp' wx))
  case first =>
    have hWd : Below w.heap.size w W.drew := hW.drew
    have c8 : W.drew.cell? ⟨b, off + 8, none⟩ = some (.int .u8 (getT zs)) := HC.out _ hWd 8 (by omega)
    have c9 : W.drew.cell? ⟨b, off + 9, none⟩ = some (.int .u8 (getP zs)) := HC.out _ hWd 9 (by omega)
    have hS0 : W.cell? ⟨b, off + 8, none⟩ = some (.int .u8 (getT zs)) ∧ W.cell? ⟨b, off + 9, none⟩ = some (.int .u8 (getP zs)) ∧ Hid (Below w.heap.size w W) := ⟨c8, c9, hW⟩
    have HWd : Hid (Below w.heap.size w W.drew) := hWd
    have i8 : (8 : Int) < (n : Int) := by omega
    have i9 : (9 : Int) < (n : Int) := by omega
    have i16 : (16 : Int) ≤ (cap : Int) := by omega
    have i20 : (20 : Int) ≤ (cap : Int) := by omega
    have j12 : ¬ cap = 12 := by omega
    have j16 : ¬ cap = 16 := by omega
    have t8 : IntKind.i64.wrap (getT zs) = getT zs := by rw [IntKind.wrap_i64]; omega
    have t9 : IntKind.i64.wrap (getP zs) = getP zs := by rw [IntKind.wrap_i64]; omega
    go_region_held3 (fun w' => w'.cell? ⟨b, off + 8, none⟩ = some (.int .u8 (getT zs)) ∧ w'.cell? ⟨b, off + 9, none⟩ = some (.int .u8 (getP zs)) ∧ Hid (Below w.heap.size w w')) (with_reducible first | exact ⟨c8, c9, HWd⟩ | assumption | (refine keep_two ?_ hblt hblt hk; assumption) | (refine keep_new ?_ hblt hblt _; assumption) | exact keep_new hS2 hblt hblt _ | exact keep_drew (keep_new hS0 hblt hblt _) | exact keep_five hS2 hblt hblt hW.size | fail)
      (first | (go_at_call 31; refine (number_at b off n _ _ zs _ (HC.out _ (‹_ ∧ _ ∧ Hid (Below w.heap.size w _)›).2.2.out) HZ.out (by omega)).mono ?_; rintro e w' ⟨rfl, rfl⟩) | ((refine step_append_nil _ (by rfl) _ _ (by rfl) (by rfl) _ _ _ (by rfl) (zs.drop 20) HDl.out (HD.out _ (‹_ ∧ _ ∧ Hid (Below w.heap.size w _)›).2.2.out) HDn.out HDs.out ?_; intro a' cp' w2 hbt hnil' hcp hk' hfar; have hk := hk'.mono (‹_ ∧ _ ∧ Hid (Below w.heap.size w _)›).2.2.out.size; have hS2 := keep_two ‹_ ∧ _ ∧ Hid (Below w.heap.size w _)› hblt hblt hk; have hcl := fun (p : Addr) (h : p.block < _) => hk'.cell (p := p) h; have hfr := fun (p : Addr) (h : p.block < _) => hk'.frozen (p := p) h)))
    all_goals go_wp2
    all_goals go_meet
    · exact ⟨_, a', cp', rfl, got_new hk' hbt hnil' hcp hfar⟩
    all_goals exact ⟨_, a', cp', rfl, got_old hk' hbt hnil' hcp hfar⟩
  case rest =>
    obtain ⟨g6, a', cp', rfl, hG⟩ := hcut
    obtain ⟨x0, x1, x2, x3, x4⟩ := hG.out.1
    have hWx : Below W.heap.size W wc := hG.out.2.2.2.2.2
    have hn20 : n - 20 ≤ 70368744177664 := by omega
    go_wp2_with fail
    refine (head_any (getT zs) (getP zs) (getS zs) (getA zs) a' (n - 20) cp' wc hn20).mono ?_
    rintro e w3 ⟨g, gc, rfl, ho, hk⟩
    rw [wantZ_of HM.out hn] at ho
    have hb3 : Below W.heap.size W w3 := hWx.trans (hk.mono hWx.size)
    have hw3 : Below w.heap.size w w3.drew := (hW.trans (hb3.mono hW.size)).drew
    have hX6 : Box w3 g6 (getT zs) (getP zs) (getS zs) (getA zs) (.slice a' (n - 20) cp') := hG.out.1.below hk hG.out.1.lt
    have hBA : Bts w3 a' (zs.drop 20) := hG.out.2.1.below hk
    have hfin := hG.out.2.2
    have hsz : W.heap.size = w.heap.size + 1 + 1 := by rw [← hWe]; simp
    have hX2 : Box w3 w.heap.size 0 0 0 0 (.slice none 0 0) := (by rw [← hWe]; exact (box_new w 0 0 0 0 (.slice none 0 0)).below ((Below.refl (w.heap.size + 1) _).alloc (by simp) _) (by omega) : Box W w.heap.size 0 0 0 0 (.slice none 0 0)).below hb3 (by omega)
    have hX4 : Box w3 (w.heap.size + 1) 0 0 0 0 (.slice none 0 0) := (by rw [← hWe]; have := box_new (w.alloc (.cells #[.int .i64 0, .int .i64 0, .int .i64 0, .int .i64 0, .slice none 0 0] 24)) 0 0 0 0 (.slice none 0 0); simpa using this : Box W (w.heap.size + 1) 0 0 0 0 (.slice none 0 0)).below hb3 (by omega)
    have hF : ∀ i, w3.frozen? ⟨w.heap.size, i, none⟩ = false := fun i => by rw [hb3.frozen (p := ⟨w.heap.size, i, none⟩) (by show w.heap.size < _; omega), ← hWe]; simp
    have hl := HM.out
    have hgc : 20 ≤ gc := by have := ho.cap; rw [show (wantZ zs).length = 20 from rfl] at this; exact this
    have E8 := equal_any (some ⟨b, off, none⟩) (some ⟨g, 0, none⟩) 8 8 cap gc (zs.take 8) ((wantZ zs).take 8) w3.drew (by rw [List.length_take]; omega) rfl ((HBt.out.below hw3).take 8) ((ho.drew.bts).take 8) (areBytes_take HZ.out 8) (areBytes_take (headZ_bd _ _ _ _ _ _) 8)
    have E20 := equal_any (some ⟨b, off, none⟩) (some ⟨g, 0, none⟩) 20 20 cap gc (zs.take 20) (wantZ zs) w3.drew (by rw [List.length_take]; omega) rfl ((HBt.out.below hw3).take 20) ho.drew.bts (areBytes_take HZ.out 20) (headZ_bd _ _ _ _ _ _)
    have i8 : (8 : Int) ≤ (cap : Int) := by omega
    have i20 : (20 : Int) ≤ (cap : Int) := by omega
    have k8 : (8 : Int) ≤ (gc : Int) := by omega
    have hq0 := getE_form (zs := zs) (by omega) (by omega)
    have hq1 := getE_sum (zs := zs) (by omega) (by omega)
    have hq2 := getE_ok (zs := zs) (by omega) (by omega)
    have HQ0 : Hid (¬ zs.take 8 = (wantZ zs).take 8 → getE zs = 3) := hq0
    have HQ1 : Hid (zs.take 8 = (wantZ zs).take 8 → ¬ zs.take 20 = wantZ zs → getE zs = 4) := hq1
    have HQ2 : Hid (zs.take 8 = (wantZ zs).take 8 → zs.take 20 = wantZ zs → getE zs = 0) := hq2
    have HBA : Hid (Bts w3 a' (zs.drop 20)) := hBA
    have HFN : Hid ((a' = none → cp' = 0) ∧ n - 20 ≤ cp' ∧ (∀ ad, a' = some ad → W.heap.size ≤ ad.block) ∧ Below W.heap.size W wc) := hfin
    have HW3 : Hid (Below w.heap.size w w3.drew) := hw3
    have HSZ : Hid (W.heap.size = w.heap.size + 1 + 1) := hsz
    clear hq0 hq1 hq2 hBA hfin hG hWx hk hb3 hw3 x0 x1 x2 x3 x4 HD HDn HDl HDs ho hl hsz hWe hW HC HBt HZ
    obtain ⟨y0, y1, y2, y3, y4⟩ := hX2
    obtain ⟨z0, z1, z2, z3, z4⟩ := hX4
    obtain ⟨x0, x1, x2, x3, x4⟩ := hX6
    obtain ⟨q, hq⟩ : ∃ q, decide (zs.take 8 = (wantZ zs).take 8) = q := ⟨_, rfl⟩
    obtain ⟨r, hr⟩ : ∃ r, decide (zs.take 20 = wantZ zs) = r := ⟨_, rfl⟩
    rw [hq] at E8
    rw [hr] at E20
    go_upto_region 9 with fail
    go_region_held3 (fun _ => True) (first | trivial) (first | (go_at_call 32; refine E8.mono ?_; rintro e w' ⟨rfl, rfl⟩))
    have hne : ∀ ad, a' = some ad → w.heap.size < ad.block := fun ad h => by have h1 := HFN.out.2.2.1 ad h; have h2 := HSZ.out; omega
    have HNE : Hid (∀ ad, a' = some ad → w.heap.size < ad.block) := hne
    clear hne
    cases q with
    | false =>
      have HE : Hid (getE zs = 3) := HQ0.out (of_decide_eq_false hq)
      clear hq hr E8 E20 HQ0 HQ1 HQ2
      go_wp2
      have hV := box_set (t := 0) (p := 0) (s := 0) (d := 0) (v := (.slice none 0 0)) y0 y1 y2 y3 y4
      have hK : Below w.heap.size w (((((w3.setCell ⟨w.heap.size, 0, none⟩ (.int .i64 0)).setCell ⟨w.heap.size, 1, none⟩ (.int .i64 0)).setCell ⟨w.heap.size, 2, none⟩ (.int .i64 0)).setCell ⟨w.heap.size, 3, none⟩ (.int .i64 0)).setCell ⟨w.heap.size, 4, none⟩ (.slice none 0 0)).drew := (store5_below HW3.out (Nat.le_refl _)).drew
      generalize (((((w3.setCell ⟨w.heap.size, 0, none⟩ (.int .i64 0)).setCell ⟨w.heap.size, 1, none⟩ (.int .i64 0)).setCell ⟨w.heap.size, 2, none⟩ (.int .i64 0)).setCell ⟨w.heap.size, 3, none⟩ (.int .i64 0)).setCell ⟨w.heap.size, 4, none⟩ (.slice none 0 0)) = V at *
      obtain ⟨v0, v1, v2, v3, v4⟩ := hV
      (try simp only [Exit.inBlock, Exit.then])
      refine bodyPost_ret (by simp [results, Tryd.results21, go_sem, v0, v1, v2, v3, v4]; try rfl) rfl ?_
      exact ⟨.inr ⟨by rw [HE.out]; decide, _, rfl, .inr ⟨by rw [HE.out]; decide, _, by rw [HE.out]⟩⟩, hK⟩
    | true =>
      go_wp2_with fail
      refine E20.mono ?_
      rintro e w' ⟨rfl, rfl⟩
      cases r with
      | false =>
        have HE : Hid (getE zs = 4) := HQ1.out (of_decide_eq_true hq) (of_decide_eq_false hr)
        clear hq hr E8 E20 HQ0 HQ1 HQ2
        go_wp2
        have hV := box_set (t := 0) (p := 0) (s := 0) (d := 0) (v := (.slice none 0 0)) y0 y1 y2 y3 y4
        have hK : Below w.heap.size w (((((w3.setCell ⟨w.heap.size, 0, none⟩ (.int .i64 0)).setCell ⟨w.heap.size, 1, none⟩ (.int .i64 0)).setCell ⟨w.heap.size, 2, none⟩ (.int .i64 0)).setCell ⟨w.heap.size, 3, none⟩ (.int .i64 0)).setCell ⟨w.heap.size, 4, none⟩ (.slice none 0 0)).drew := (store5_below HW3.out (Nat.le_refl _)).drew
        generalize (((((w3.setCell ⟨w.heap.size, 0, none⟩ (.int .i64 0)).setCell ⟨w.heap.size, 1, none⟩ (.int .i64 0)).setCell ⟨w.heap.size, 2, none⟩ (.int .i64 0)).setCell ⟨w.heap.size, 3, none⟩ (.int .i64 0)).setCell ⟨w.heap.size, 4, none⟩ (.slice none 0 0)) = V at *
        obtain ⟨v0, v1, v2, v3, v4⟩ := hV
        (try simp only [Exit.inBlock, Exit.then])
        refine bodyPost_ret (by simp [results, Tryd.results21, go_sem, v0, v1, v2, v3, v4]; try rfl) rfl ?_
        exact ⟨.inr ⟨by rw [HE.out]; decide, _, rfl, .inr ⟨by rw [HE.out]; decide, _, by rw [HE.out]⟩⟩, hK⟩
      | true =>
        have HE : Hid (getE zs = 0) := HQ2.out (of_decide_eq_true hq) (of_decide_eq_true hr)
        clear hq hr E8 E20 HQ0 HQ1 HQ2
        go_wp2
        have hV := box_set (t := (getT zs)) (p := (getP zs)) (s := (getS zs)) (d := (getA zs)) (v := (.slice a' (n - 20) cp')) y0 y1 y2 y3 y4
        have hK : Below w.heap.size w (((((w3.setCell ⟨w.heap.size, 0, none⟩ (.int .i64 (getT zs))).setCell ⟨w.heap.size, 1, none⟩ (.int .i64 (getP zs))).setCell ⟨w.heap.size, 2, none⟩ (.int .i64 (getS zs))).setCell ⟨w.heap.size, 3, none⟩ (.int .i64 (getA zs))).setCell ⟨w.heap.size, 4, none⟩ (.slice a' (n - 20) cp')).drew := (store5_below HW3.out (Nat.le_refl _)).drew
        have hA : Bts (((((w3.setCell ⟨w.heap.size, 0, none⟩ (.int .i64 (getT zs))).setCell ⟨w.heap.size, 1, none⟩ (.int .i64 (getP zs))).setCell ⟨w.heap.size, 2, none⟩ (.int .i64 (getS zs))).setCell ⟨w.heap.size, 3, none⟩ (.int .i64 (getA zs))).setCell ⟨w.heap.size, 4, none⟩ (.slice a' (n - 20) cp')).drew a' (zs.drop 20) := (bts_set (bts_set (bts_set (bts_set (bts_set HBA.out HNE.out) HNE.out) HNE.out) HNE.out) HNE.out).below (Below.refl _ _).drew
        generalize (((((w3.setCell ⟨w.heap.size, 0, none⟩ (.int .i64 (getT zs))).setCell ⟨w.heap.size, 1, none⟩ (.int .i64 (getP zs))).setCell ⟨w.heap.size, 2, none⟩ (.int .i64 (getS zs))).setCell ⟨w.heap.size, 3, none⟩ (.int .i64 (getA zs))).setCell ⟨w.heap.size, 4, none⟩ (.slice a' (n - 20) cp')) = V at *
        obtain ⟨v0, v1, v2, v3, v4⟩ := hV
        (try simp only [Exit.inBlock, Exit.then])
        refine bodyPost_ret (by simp [results, Tryd.results21, go_sem, v0, v1, v2, v3, v4]; try rfl) rfl ?_
        exact ⟨.inl ⟨HE.out, _, _, rfl, hA, HFN.out.1, HFN.out.2.1, fun ad h => Nat.le_of_lt (HNE.out ad h)⟩, hK⟩
end Go.Proofs.YtknpgpmckabmbaaDoor
