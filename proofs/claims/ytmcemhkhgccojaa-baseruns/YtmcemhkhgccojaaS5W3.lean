/- Which advertisements are right. -/
import Derived.Test.YtmcemhkhgccojaaY8A
namespace Go.Proofs.Ytmcemhkhgccojaa
open Go.RowKit

/-- Where an advertisement's lists lie. -/
structure Seats where
  la : Option Addr
  lc : Nat
  ra : Option Addr
  rc : Nat
  va : Option Addr
  vc : Nat
/-- The lists lie there. -/
structure Held (w : World) (s : Seats) (l : LsaZ) : Prop where
  hl : Lies w s.la (cellsOf linkC l.links)
  hr : Lies w s.ra (cellsOf intC l.routers)
  hv : Lies w s.va (cellsOf vertC l.verts)
/-- Of lengths that can be. -/
structure Fits (l : LsaZ) : Prop where
  hl : l.links.length ≤ 140737488355328
  hr : l.routers.length ≤ 140737488355328
  hv : l.verts.length ≤ 140737488355328
theorem Held.below {w w' : World} {s : Seats} {l : LsaZ} (h : Held w s l) (hb : Below w.heap.size w w') : Held w' s l := ⟨h.hl.below hb, h.hr.below hb, h.hv.below hb⟩
theorem Held.belowN {w w' : World} {N : Nat} {s : Seats} {l : LsaZ} (h : Held w s l) (hb : Below N w w') (hN : w.heap.size ≤ N) : Held w' s l := h.below (hb.mono hN)
abbrev headA (h : HeadZ) : Array Value := #[.int .i64 h.age, .int .i64 h.kind, .int .i64 h.id, .int .i64 h.adv, .int .i64 h.seq, .int .i64 h.sum, .int .i64 h.len]
abbrev lsaA (s : Seats) (l : LsaZ) : Array Value := #[.int .i64 l.head.age, .int .i64 l.head.kind, .int .i64 l.head.id, .int .i64 l.head.adv, .int .i64 l.head.seq, .int .i64 l.head.sum, .int .i64 l.head.len, .int .i64 l.flags, .slice s.la l.links.length s.lc, .int .i64 l.bits, .slice s.ra l.routers.length s.rc, .slice s.va l.verts.length s.vc]

/-- An advertisement in a variable. -/
structure Box (w : World) (b : Nat) (s : Seats) (l : LsaZ) : Prop where
  c0 : w.cell? ⟨b, 0, none⟩ = some (.int .i64 l.head.age)
  c1 : w.cell? ⟨b, 1, none⟩ = some (.int .i64 l.head.kind)
  c2 : w.cell? ⟨b, 2, none⟩ = some (.int .i64 l.head.id)
  c3 : w.cell? ⟨b, 3, none⟩ = some (.int .i64 l.head.adv)
  c4 : w.cell? ⟨b, 4, none⟩ = some (.int .i64 l.head.seq)
  c5 : w.cell? ⟨b, 5, none⟩ = some (.int .i64 l.head.sum)
  c6 : w.cell? ⟨b, 6, none⟩ = some (.int .i64 l.head.len)
  c7 : w.cell? ⟨b, 7, none⟩ = some (.int .i64 l.flags)
  c8 : w.cell? ⟨b, 8, none⟩ = some (.slice s.la l.links.length s.lc)
  c9 : w.cell? ⟨b, 9, none⟩ = some (.int .i64 l.bits)
  c10 : w.cell? ⟨b, 10, none⟩ = some (.slice s.ra l.routers.length s.rc)
  c11 : w.cell? ⟨b, 11, none⟩ = some (.slice s.va l.verts.length s.vc)
theorem Box.below {w w' : World} {b N : Nat} {s : Seats} {l : LsaZ} (h : Box w b s l) (hb : Below N w w') (hN : b < N) : Box w' b s l := by
  obtain ⟨h0, h1, h2, h3, h4, h5, h6, h7, h8, h9, h10, h11⟩ := h
  exact ⟨by rw [hb.cell hN]; exact h0, by rw [hb.cell hN]; exact h1, by rw [hb.cell hN]; exact h2, by rw [hb.cell hN]; exact h3, by rw [hb.cell hN]; exact h4, by rw [hb.cell hN]; exact h5, by rw [hb.cell hN]; exact h6, by rw [hb.cell hN]; exact h7, by rw [hb.cell hN]; exact h8, by rw [hb.cell hN]; exact h9, by rw [hb.cell hN]; exact h10, by rw [hb.cell hN]; exact h11⟩
theorem box_new (w : World) (s : Seats) (l : LsaZ) : Box (w.alloc (.cells (lsaA s l) 39)) w.heap.size s l := by
  constructor <;> simp
theorem Box.lt {w : World} {b : Nat} {s : Seats} {l : LsaZ} (h : Box w b s l) : b < w.heap.size := by
  rcases Nat.lt_or_ge b w.heap.size with h' | h'
  · exact h'
  · have := h.c0; simp [World.cell?, Array.getElem?_eq_none h'] at this

set_option maxHeartbeats 800000 in
theorem noRouter_any (s : Seats) (l : LsaZ) (w : World) (hf : Fits l) :
    Calls Try.prog 76 #[.agg (lsaA s l)] w fun e w' => e = .returned (.bool (noRouterB l)) ∧ Below w.heap.size w w' := by
  have HE : Hid (noRouterB l = ((l.flags == 0) && ((l.links.length : Int) == 0))) := rfl
  generalize noRouterB l = R at *
  obtain ⟨h1, h2, h3⟩ := hf
  go_enter Try.func76, Try.ntmps76
  go_wp2
  all_goals go_ret
  all_goals exact ⟨ret_bool (by rw [HE.out] <;> simp [*]), below_new' _ _⟩

set_option maxHeartbeats 800000 in
theorem noNetwork_any (s : Seats) (l : LsaZ) (w : World) (hf : Fits l) :
    Calls Try.prog 74 #[.agg (lsaA s l)] w fun e w' => e = .returned (.bool (noNetworkB l)) ∧ Below w.heap.size w w' := by
  have HE : Hid (noNetworkB l = ((l.bits == 0) && ((l.routers.length : Int) == 0))) := rfl
  generalize noNetworkB l = R at *
  obtain ⟨h1, h2, h3⟩ := hf
  go_enter Try.func74, Try.ntmps74
  go_wp2
  all_goals go_ret
  all_goals exact ⟨ret_bool (by rw [HE.out] <;> simp [*]), below_new' _ _⟩

set_option maxHeartbeats 800000 in
theorem noGroup_any (s : Seats) (l : LsaZ) (w : World) (hf : Fits l) :
    Calls Try.prog 75 #[.agg (lsaA s l)] w fun e w' => e = .returned (.bool (noGroupB l)) ∧ Below w.heap.size w w' := by
  have HE : Hid (noGroupB l = ((l.verts.length : Int) == 0)) := rfl
  generalize noGroupB l = R at *
  obtain ⟨h1, h2, h3⟩ := hf
  go_enter Try.func75, Try.ntmps75
  go_wp2
  all_goals go_ret
  all_goals exact ⟨ret_bool (by rw [HE.out] <;> simp [*]), below_new' _ _⟩

set_option maxHeartbeats 800000 in
theorem Great_any (s : Seats) (l : LsaZ) (w : World) (hf : Fits l) :
    Calls Try.prog 28 #[.agg (lsaA s l)] w fun e w' => e = .returned (.bool (greatB l)) ∧ Below w.heap.size w w' := by
  have HE : Hid (greatB l = (decide (70 < (l.links.length : Int)) || decide (70 < (l.routers.length : Int)) || decide (70 < (l.verts.length : Int)))) := rfl
  generalize greatB l = R at *
  obtain ⟨h1, h2, h3⟩ := hf
  go_enter Try.func28, Try.ntmps28
  go_wp2
  all_goals go_ret
  all_goals exact ⟨ret_bool (by rw [HE.out] <;> simp [*]), below_new' _ _⟩

set_option maxHeartbeats 800000 in
theorem rightRouter_any (s : Seats) (l : LsaZ) (w : World) (hH : Held w s l) (hf : Fits l) :
    Calls Try.prog 73 #[.agg (lsaA s l)] w fun e w' => e = .returned (.bool (rightRouterB l)) ∧ Below w.heap.size w w' := by
  have HE : Hid (rightRouterB l = (amongB l.flags 0 255 && rightListB rightLinkB l.links)) := rfl
  have HW : Hid (Held w s l) := hH
  have HF : Hid (Fits l) := hf
  generalize rightRouterB l = R at *
  obtain ⟨h1, h2, h3⟩ := hf
  clear hH
  go_enter Try.func73, Try.ntmps73
  go_wp2_with fail
  refine (among_any _ _ _ _).mono ?_
  rintro e w' ⟨rfl, rfl⟩
  cases ha : amongB l.flags 0 255 with
  | false =>
    go_wp2
    go_ret
    exact ⟨ret_bool (by rw [HE.out, ha]; rfl), below_new' _ _⟩
  | true =>
    go_wp2_with fail
    refine (rightLinks_any _ _ _ _ _ rfl (HW.out.below (below_new' _ _)).hl HF.out.hl).mono ?_
    rintro e w2 ⟨rfl, hb⟩
    have HB : Hid (Below w.heap.size w w2) := below_more (below_new' _ _) hb (by simp)
    clear hb
    go_wp2
    go_ret
    exact ⟨ret_bool (by rw [HE.out, ha]; rfl), HB.out⟩

set_option maxHeartbeats 800000 in
theorem rightNetwork_any (s : Seats) (l : LsaZ) (w : World) (hH : Held w s l) (hf : Fits l) :
    Calls Try.prog 77 #[.agg (lsaA s l)] w fun e w' => e = .returned (.bool (rightNetworkB l)) ∧ Below w.heap.size w w' := by
  have HE : Hid (rightNetworkB l = (amongB l.bits 0 32 && rightListB rightI l.routers)) := rfl
  have HW : Hid (Held w s l) := hH
  have HF : Hid (Fits l) := hf
  generalize rightNetworkB l = R at *
  obtain ⟨h1, h2, h3⟩ := hf
  clear hH
  go_enter Try.func77, Try.ntmps77
  go_wp2_with fail
  refine (among_any _ _ _ _).mono ?_
  rintro e w' ⟨rfl, rfl⟩
  cases ha : amongB l.bits 0 32 with
  | false =>
    go_wp2
    go_ret
    exact ⟨ret_bool (by rw [HE.out, ha]; rfl), below_new' _ _⟩
  | true =>
    go_wp2_with fail
    refine (rightInts_any _ _ _ _ _ rfl (HW.out.below (below_new' _ _)).hr HF.out.hr).mono ?_
    rintro e w2 ⟨rfl, hb⟩
    have HB : Hid (Below w.heap.size w w2) := below_more (below_new' _ _) hb (by simp)
    clear hb
    go_wp2
    go_ret
    exact ⟨ret_bool (by rw [HE.out, ha]; rfl), HB.out⟩

set_option maxHeartbeats 800000 in
theorem rightGroup_any (s : Seats) (l : LsaZ) (w : World) (hH : Held w s l) (hf : Fits l) :
    Calls Try.prog 78 #[.agg (lsaA s l)] w fun e w' => e = .returned (.bool (rightGroupB l)) ∧ Below w.heap.size w w' := by
  have HE : Hid (rightGroupB l = (rightListB rightVertB l.verts)) := rfl
  have HW : Hid (Held w s l) := hH
  have HF : Hid (Fits l) := hf
  generalize rightGroupB l = R at *
  obtain ⟨h1, h2, h3⟩ := hf
  clear hH
  go_enter Try.func78, Try.ntmps78
  go_wp2_with fail
  refine (rightVerts_any _ _ _ _ _ rfl (HW.out.below (below_new' _ _)).hv HF.out.hv).mono ?_
  rintro e w2 ⟨rfl, hb⟩
  have HB : Hid (Below w.heap.size w w2) := below_more (below_new' _ _) hb (by simp)
  clear hb
  go_wp2
  go_ret
  exact ⟨ret_bool HE.out.symm, HB.out⟩
end Go.Proofs.Ytmcemhkhgccojaa
