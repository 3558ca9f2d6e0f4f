/- cmp.Compare of numbers. -/
import Derived.Test.YtmcemhkhgccojaaY8A
import Derived.Deep.QuietTactic
import Derived.BigQuiet
import Derived.Deep.RegionHeld3
import Derived.Test.YtmcemhkhgccojaaS5W10
import Derived.Test.YtmcemhkhgccojaaS5W5
import Derived.Deep.Cut
namespace Go.Proofs.Ytmcemhkhgccojaa
open Go.RowKit

theorem below_dr {N : Nat} {a w : World} (h : Below N a w) (n : Nat) : Below N a (w.drewN n) := h.trans ⟨rfl, rfl, rfl, Nat.le_refl _, fun _ _ => rfl⟩
def cmpZ (x y : Int) : Int := if x < y then -1 else if y < x then 1 else 0
theorem cmpZ_cases (x y : Int) : (cmpZ x y = -1 ∧ x < y) ∨ (cmpZ x y = 0 ∧ x = y) ∨ (cmpZ x y = 1 ∧ y < x) := by
  unfold cmpZ
  rcases Int.lt_trichotomy x y with h | h | h
  · exact .inl ⟨if_pos h, h⟩
  · subst h; exact .inr (.inl ⟨by simp, rfl⟩)
  · exact .inr (.inr ⟨by rw [if_neg (by omega), if_pos h], h⟩)
theorem nan_any (x : Int) (w : World) :
    Calls Try.prog 68 #[.int .i64 x] w fun e w' => e = .returned (.bool false) ∧ w' = w := by
  go_enter Try.func68, Try.ntmps68
  go_wp2
  go_ret
  first | exact ⟨rfl, rfl⟩ | exact ⟨ret_bool (by simp), rfl⟩
set_option maxHeartbeats 400000 in
theorem compare_at (x y v : Int) (h : cmpZ x y = v) (w : World) :
    Calls Try.prog 49 #[.int .i64 x, .int .i64 y] w fun e w' => e = .returned (.int .i64 v) ∧ w' = w := by
  have HV : Hid (cmpZ x y = v) := h
  clear h
  go_enter Try.func49, Try.ntmps49
  go_wp2_with fail
  refine (nan_any _ _).mono ?_
  rintro e w' ⟨rfl, rfl⟩
  go_wp2_with fail
  refine (nan_any _ _).mono ?_
  rintro e w' ⟨rfl, rfl⟩
  go_wp2
  all_goals go_ret
  all_goals (refine ⟨ret_int ?_, rfl⟩; rw [← HV.out]; unfold cmpZ; (repeat' split) <;> first | rfl | omega)
end Go.Proofs.Ytmcemhkhgccojaa
/- cmp.Or of numbers. -/
namespace Go.Proofs.Ytmcemhkhgccojaa
open Go.RowKit

def orZ : List Int → Int
  | [] => 0
  | x :: r => if x ≠ 0 then x else orZ r
theorem orZ_step {xs : List Int} {k : Nat} (hk : k < xs.length) : orZ (xs.drop k) = if xs[k] ≠ 0 then xs[k] else orZ (xs.drop (k + 1)) := by
  rw [List.drop_eq_getElem_cons hk]; rfl
set_option maxHeartbeats 800000 in
theorem or_any (a : Option Addr) (n cap : Nat) (xs : List Int) (w : World) (hn : n = xs.length) (hL : Lies w a (cellsOf intC xs)) (hl : xs.length ≤ 140737488355328) :
    Calls Try.prog 67 #[.slice a n cap] w fun e w' => e = .returned (.int .i64 (orZ xs)) ∧ w' = w := by
  subst hn
  go_enter Try.func67, Try.ntmps67
  go_wp2
  go_loop [8] (fun t => ∃ k : Nat, k ≤ xs.length ∧ t = .int .i64 k ∧ Hid (orZ xs = orZ (xs.drop k))) (fun t => xs.length - (intOf t).toNat)
  case atStart => exact ⟨0, by omega, rfl, rfl⟩
  case round =>
    obtain ⟨k, hk, rfl, H⟩ := hrel
    by_cases hlt : k < xs.length
    · obtain ⟨b, off, rfl, c0⟩ := Ints.cells hL k hlt
      have HS := H.out.trans (orZ_step hlt)
      have H2 : Hid (orZ xs = if xs[k] ≠ 0 then xs[k] else orZ (xs.drop (k + 1))) := HS
      clear HS
      generalize xs[k] = X at *
      go_wp2
      · go_ret
        exact ⟨ret_int (by rw [H2.out, if_pos (by simp_all)]), rfl⟩
      · go_round
        case rel => exact ⟨k + 1, by omega, by go_num, by show _ = _; rw [H2.out, if_neg (by simp_all)]⟩
        case measure => simp [intOf]; omega
    · clear hL
      go_wp2
      go_ret
      exact ⟨ret_int (by rw [H.out, List.drop_eq_nil_of_le (by omega)]; rfl), rfl⟩
theorem lies_three (W : World) (A B C : Int) : Lies (W.alloc (.cells #[.int .i64 A, .int .i64 B, .int .i64 C] 3)) (some ⟨W.heap.size, 0, none⟩) (cellsOf intC [A, B, C]) :=
  .inr ⟨W.heap.size, 0, rfl, fun i hi => by
    have hi' : i < 3 := hi
    have : i = 0 ∨ i = 1 ∨ i = 2 := by omega
    rcases this with rfl | rfl | rfl <;> simp [cellsOf, intC]⟩
end Go.Proofs.Ytmcemhkhgccojaa
/- What is sealed; whether two have one body; the Key: in plain data, and the calls that ask little. -/
namespace Go.Proofs.Ytmcemhkhgccojaa
open Go.RowKit
def sealedB (l : LsaZ) : Bool := rightLsaB l && (((sealH l).sum == l.head.sum) && ((sealH l).len == l.head.len))
theorem sealH_age (l : LsaZ) : (sealH l).age = l.head.age := by unfold sealH; with_reducible rfl
theorem sealH_kind (l : LsaZ) : (sealH l).kind = l.head.kind := by unfold sealH; with_reducible rfl
theorem sealH_id (l : LsaZ) : (sealH l).id = l.head.id := by unfold sealH; with_reducible rfl
theorem sealH_adv (l : LsaZ) : (sealH l).adv = l.head.adv := by unfold sealH; with_reducible rfl
theorem sealH_seq (l : LsaZ) : (sealH l).seq = l.head.seq := by unfold sealH; with_reducible rfl
theorem seal_shape (l : LsaZ) : headA (sealH l) = #[.int .i64 l.head.age, .int .i64 l.head.kind, .int .i64 l.head.id, .int .i64 l.head.adv, .int .i64 l.head.seq, .int .i64 (sealH l).sum, .int .i64 (sealH l).len] := by
  simp only [headA, sealH_age, sealH_kind, sealH_id, sealH_adv, sealH_seq]
theorem take_eq_succ {α : Type} (a b : List α) (k : Nat) (ha : k < a.length) (hb : k < b.length) (h : a.take k = b.take k) (he : a[k] = b[k]) : a.take (k + 1) = b.take (k + 1) := by
  rw [← List.take_append_getElem ha, ← List.take_append_getElem hb, h, he]
theorem ne_at {α : Type} {a b : List α} {k : Nat} (ha : k < a.length) (hb : k < b.length) (h : a[k] ≠ b[k]) : a ≠ b := by
  rintro rfl; exact h rfl
theorem eq_end {α : Type} {a b : List α} {k : Nat} (hl : a.length = b.length) (hk : a.length ≤ k) (h : a.take k = b.take k) : a = b := by
  rwa [List.take_of_length_le hk, List.take_of_length_le (by omega)] at h
def bodyB (a b : LsaZ) : Bool := (a.head.kind == b.head.kind) && (a.flags == b.flags) && eqLinksB a.links b.links && (a.bits == b.bits) && decide (a.routers = b.routers) && eqVertsB a.verts b.verts
abbrev keyA (h : HeadZ) : Array Value := #[.int .i64 h.kind, .int .i64 h.id, .int .i64 h.adv]
set_option maxHeartbeats 800000 in
theorem keyOf_any (h : HeadZ) (w : World) :
    Calls Try.prog 32 #[.agg (headA h)] w fun e w' => e = .returned (.agg (keyA h)) ∧ Below w.heap.size w w' := by
  have HB : Hid (Below w.heap.size w ((w.alloc (.cells (headA h) 34)).alloc (.cells (keyA h) 41))) := (below_new' _ _).alloc (by simp) _
  go_enter Try.func32, Try.ntmps32
  go_wp2
  refine bodyPost_ret (by simp [results, Try.results32, go_sem]; try rfl) rfl ?_
  exact ⟨rfl, HB.out⟩
end Go.Proofs.Ytmcemhkhgccojaa
/- Seals, in plain data. -/
namespace Go.Proofs.Ytmcemhkhgccojaa

theorem hole_mid (a c : List Int) (x y : Int) : holeZ (a ++ [x, y] ++ c) a.length = a ++ [0, 0] ++ c := by
  unfold holeZ
  rw [List.append_assoc, List.set_append_right _ _ (Nat.le_refl _), List.set_append_right _ _ (Nat.le_succ _)]
  simp
theorem pair_hole (a c : List Int) (x y : Int) : pairAt (a ++ [x, y] ++ c) a.length = pairAt (a ++ [0, 0] ++ c) a.length := by
  have e : (a ++ [x, y] ++ c).length = (a ++ [0, 0] ++ c).length := by simp
  unfold pairAt pairZ fstZ sndZ
  rw [e, Int.toNat_natCast, hole_mid, hole_mid]
def front (h : HeadZ) : List Int := [0, h.kind % 256] ++ be4 h.id ++ be4 h.adv ++ be4 h.seq
theorem front_length (h : HeadZ) : (front h).length = 14 := rfl
theorem lay_drop (l : LsaZ) : (layZ l).drop 2 = front l.head ++ be2 l.head.sum ++ (be2 l.head.len ++ bodyZ l) := by
  unfold layZ headZ front
  rw [show be2 l.head.age ++ [0, l.head.kind % 256] ++ be4 l.head.id ++ be4 l.head.adv ++ be4 l.head.seq ++ be2 l.head.sum ++ be2 l.head.len ++ bodyZ l = be2 l.head.age ++ ([0, l.head.kind % 256] ++ be4 l.head.id ++ be4 l.head.adv ++ be4 l.head.seq ++ be2 l.head.sum ++ (be2 l.head.len ++ bodyZ l)) by simp only [List.append_assoc]]
  rfl
theorem sumOf_eq (l : LsaZ) : sumOf l = pairAt (front l.head ++ [0, 0] ++ (be2 l.head.len ++ bodyZ l)) 14 := by
  unfold sumOf
  rw [lay_drop]
  exact pair_hole (front l.head) (be2 l.head.len ++ bodyZ l) _ _
theorem body_head (l : LsaZ) (h : HeadZ) (hk : h.kind = l.head.kind) : bodyZ (withHead l h) = bodyZ l := by
  unfold bodyZ
  show (if h.kind = 1 then _ else if h.kind = 2 then _ else if h.kind = 6 then _ else _) = _
  rw [hk]; rfl
theorem lay_head (l : LsaZ) (h : HeadZ) (hk : h.kind = l.head.kind) : layZ (withHead l h) = headZ h ++ bodyZ l := by
  unfold layZ; rw [body_head l h hk]; rfl
theorem lenZ_eq (l : LsaZ) : lenZ l = 20 + (bodyZ l).length := by unfold lenZ layZ; rw [List.length_append, headZ_length]; omega
theorem lenZ_head (l : LsaZ) (h : HeadZ) (hk : h.kind = l.head.kind) : lenZ (withHead l h) = lenZ l := by rw [lenZ_eq, lenZ_eq, body_head l h hk]
theorem body_len (l : LsaZ) (n : Int) : bodyZ (withLen l n) = bodyZ l := by unfold bodyZ withLen; with_reducible rfl
theorem seal_sum (l : LsaZ) : (sealH l).sum = pairAt (front l.head ++ [0, 0] ++ (be2 (lenZ l) ++ bodyZ l)) 14 := by
  have : (sealH l).sum = sumOf (withLen l (lenZ l)) := by unfold sealH; with_reducible rfl
  rw [this, sumOf_eq, body_len]; rfl
theorem seal_len (l : LsaZ) : (sealH l).len = lenZ l := by unfold sealH; with_reducible rfl
/-- The same but for Age, Sum and Len. -/
structure Like (a b : HeadZ) : Prop where
  kind : a.kind = b.kind
  id : a.id = b.id
  adv : a.adv = b.adv
  seq : a.seq = b.seq
theorem seal_like (l : LsaZ) (h : HeadZ) (hs : Like h l.head) : (sealH (withHead l h)).sum = (sealH l).sum ∧ (sealH (withHead l h)).len = (sealH l).len := by
  obtain ⟨h1, h2, h3, h4⟩ := hs
  rw [seal_sum, seal_sum, seal_len, seal_len, lenZ_head l h h1, body_head l h h1]
  have : front (withHead l h).head = front l.head := by
    show front h = _
    unfold front; rw [h1, h2, h3, h4]
  rw [this]; exact ⟨rfl, rfl⟩
theorem like_seal (l : LsaZ) : Like (sealH l) l.head := ⟨sealH_kind l, sealH_id l, sealH_adv l, sealH_seq l⟩
theorem right_like (l : LsaZ) (h : HeadZ) (hs : Like h l.head) (ha : amongB h.age 0 3600 = true) (hr : rightLsaB l = true) : rightLsaB (withHead l h) = true := by
  obtain ⟨h1, h2, h3, h4⟩ := hs
  have e2 : rightBodyB (withHead l h) = rightBodyB l := by
    unfold rightBodyB
    show (if h.kind = 1 then _ else if h.kind = 2 then _ else if h.kind = 6 then _ else _) = _
    rw [h1]; rfl
  unfold rightLsaB rightHeadB at hr ⊢
  rw [e2]
  show (amongB h.age 0 3600 && rightI h.id && rightI h.adv && (h.adv != 0) && amongB h.seq (-2147483647) 2147483647 && _) = true
  rw [h2, h3, h4, ha]
  simp only [Bool.and_eq_true] at hr ⊢
  exact ⟨⟨⟨⟨⟨trivial, hr.1.1.1.1.2⟩, hr.1.1.1.2⟩, hr.1.1.2⟩, hr.1.2⟩, hr.2⟩
theorem right_age {l : LsaZ} (hr : rightLsaB l = true) : amongB l.head.age 0 3600 = true := by
  unfold rightLsaB rightHeadB at hr
  simp only [Bool.and_eq_true] at hr
  exact hr.1.1.1.1.1
theorem right_sealed {l : LsaZ} (hr : rightLsaB l = true) : rightLsaB (withHead l (sealH l)) = true := right_like l _ (like_seal l) (by rw [sealH_age]; exact right_age hr) hr
theorem sealed_sealed {l : LsaZ} (hr : rightLsaB l = true) : sealedB (withHead l (sealH l)) = true := by
  unfold sealedB
  rw [right_sealed hr, (seal_like l _ (like_seal l)).1, (seal_like l _ (like_seal l)).2]
  show (true && (((sealH l).sum == (sealH l).sum) && ((sealH l).len == (sealH l).len))) = true
  simp
theorem seal_again (l : LsaZ) : sealH (withHead l (sealH l)) = sealH l := by
  obtain ⟨h1, h2⟩ := seal_like l _ (like_seal l)
  exact HeadZ.same (sealH_age _) (sealH_kind _) (sealH_id _) (sealH_adv _) (sealH_seq _) h1 h2
end Go.Proofs.Ytmcemhkhgccojaa
/- Which head is newer: contracts of the calls of package newer, and of the document's. -/
namespace Go.Proofs.Ytmcemhkhgccojaa
open Go.RowKit

def endZ (a : Int) : Int := if 3600 ≤ a then 1 else 0
def apZ (x y : Int) : Int := if x ≤ y then y - x else x - y
def sgZ (b : Bool) : Int := if b then 1 else -1
def In64 (x : Int) : Prop := -9223372036854775808 ≤ x ∧ x ≤ 9223372036854775807
theorem ended_any (x : Int) (w : World) :
    Calls Try.prog 50 #[.int .i64 x] w fun e w' => e = .returned (.int .i64 (endZ x)) ∧ w' = w := by
  go_enter Try.func50, Try.ntmps50
  go_wp2
  all_goals go_ret
  all_goals (refine ⟨ret_int ?_, rfl⟩; unfold endZ; split <;> first | rfl | omega)
theorem sign_any (b : Bool) (w : World) :
    Calls Try.prog 54 #[.bool b] w fun e w' => e = .returned (.int .i64 (sgZ b)) ∧ w' = w := by
  cases b <;> go_enter Try.func54, Try.ntmps54 <;> go_wp2 <;> go_ret <;> exact ⟨rfl, rfl⟩
set_option maxHeartbeats 400000 in
theorem apart_at (x y p : Int) (hx : In64 x) (hy : In64 y) (h : apZ x y = p) (w : World) :
    Calls Try.prog 51 #[.int .i64 x, .int .i64 y] w fun e w' => e = .returned (.int .u64 p) ∧ w' = w := by
  have HV : Hid (apZ x y = p) := h
  have HX : Hid (In64 x) := hx
  have HY : Hid (In64 y) := hy
  clear h hx hy
  go_enter Try.func51, Try.ntmps51
  go_wp2
  all_goals go_ret
  all_goals (refine ⟨ret_int ?_, rfl⟩; rw [← HV.out]; obtain ⟨h1, h2⟩ := HX.out; obtain ⟨h3, h4⟩ := HY.out; unfold apZ; simp only [IntKind.wrap_u64] ; split <;> omega)
end Go.Proofs.Ytmcemhkhgccojaa
/- Which head is newer: the call of package newer, and the document's. -/
namespace Go.Proofs.Ytmcemhkhgccojaa
open Go.RowKit

structure Hd where
  age : Int
  kind : Int
  id : Int
  adv : Int
  seq : Int
  sum : Int
  len : Int
abbrev hdA (h : Hd) : Array Value := #[.int .i64 h.age, .int .i64 h.kind, .int .i64 h.id, .int .i64 h.adv, .int .i64 h.seq, .int .i64 h.sum, .int .i64 h.len]
/-- 1: the first is newer; -1: the second; 0: one instance. -/
def newI (ag sq sm ag' sq' sm' : Int) : Int :=
  if cmpZ sq sq' ≠ 0 then cmpZ sq sq' else if cmpZ sm sm' ≠ 0 then cmpZ sm sm' else if cmpZ (endZ ag) (endZ ag') ≠ 0 then cmpZ (endZ ag) (endZ ag')
  else if 900 < apZ ag ag' then cmpZ ag' ag else 0
theorem cmpZ_self (x : Int) : cmpZ x x = 0 := by simp [cmpZ]
theorem cmpZ_swap (x y : Int) : cmpZ x y = - cmpZ y x := by unfold cmpZ; (repeat' split) <;> omega
theorem apZ_swap (x y : Int) : apZ x y = apZ y x := by unfold apZ; (repeat' split) <;> omega
theorem newI_same (ag s m ag' : Int) (he : endZ ag = endZ ag') : newI ag s m ag' s m = if 900 < apZ ag ag' then cmpZ ag' ag else 0 := by
  unfold newI; rw [cmpZ_self, cmpZ_self, he, cmpZ_self]; simp
theorem newI_end (ag s m ag' : Int) (he : cmpZ (endZ ag) (endZ ag') ≠ 0) : newI ag s m ag' s m = cmpZ (endZ ag) (endZ ag') := by
  unfold newI; rw [cmpZ_self, cmpZ_self]; simp [he]
theorem newI_ep (ag s m ag' : Int) (h : 3600 ≤ ag) (h' : ¬ 3600 ≤ ag') : newI ag s m ag' s m = 1 := by
  have e : cmpZ (endZ ag) (endZ ag') = 1 := by unfold endZ; rw [if_pos h, if_neg h']; decide
  rw [newI_end _ _ _ _ (by rw [e]; decide), e]
theorem newI_em (ag s m ag' : Int) (h : ¬ 3600 ≤ ag) (h' : 3600 ≤ ag') : newI ag s m ag' s m = -1 := by
  have e : cmpZ (endZ ag) (endZ ag') = -1 := by unfold endZ; rw [if_neg h, if_pos h']; decide
  rw [newI_end _ _ _ _ (by rw [e]; decide), e]
theorem newI_swap (ag s m ag' s' m' : Int) : newI ag s m ag' s' m' = - newI ag' s' m' ag s m := by
  have h1 := cmpZ_swap s s'
  have h2 := cmpZ_swap m m'
  have h3 := cmpZ_swap (endZ ag) (endZ ag')
  have h4 := cmpZ_swap ag' ag
  have h5 := apZ_swap ag ag'
  unfold newI
  rw [h1, h2, h3, h4, h5]
  (repeat' split) <;> omega
theorem newI_self (ag s m : Int) : newI ag s m ag s m = 0 := by
  rw [newI_same _ _ _ _ rfl]; simp [cmpZ_self]
theorem cmpZ_three (x y : Int) : cmpZ x y = -1 ∨ cmpZ x y = 0 ∨ cmpZ x y = 1 := by unfold cmpZ; (repeat' split) <;> omega
theorem newI_three (ag s m ag' s' m' : Int) : newI ag s m ag' s' m' = -1 ∨ newI ag s m ag' s' m' = 0 ∨ newI ag s m ag' s' m' = 1 := by
  have h1 := cmpZ_three s s'
  have h2 := cmpZ_three m m'
  have h3 := cmpZ_three (endZ ag) (endZ ag')
  have h4 := cmpZ_three ag' ag
  unfold newI
  (repeat' split) <;> omega
theorem newI_rows {ag s m ag' s' m' ag'' s'' m'' : Int} (h1 : ¬ (s = s' ∧ m = m')) (h2 : ¬ (s' = s'' ∧ m' = m'')) (h3 : 0 < newI ag s m ag' s' m') (h4 : 0 < newI ag' s' m' ag'' s'' m'') : newI ag s m ag'' s'' m'' = 1 := by
  have k : ∀ a s m a' s' m' : Int, ¬ (s = s' ∧ m = m') → 0 < newI a s m a' s' m' → s' < s ∨ (s = s' ∧ m' < m) := by
    intro a s m a' s' m' hn hp
    rcases cmpZ_cases s s' with ⟨e, h⟩ | ⟨e, h⟩ | ⟨e, h⟩
    · unfold newI at hp; rw [e] at hp; simp at hp
    · subst h
      rcases cmpZ_cases m m' with ⟨e', h'⟩ | ⟨e', h'⟩ | ⟨e', h'⟩
      · unfold newI at hp; rw [e, e'] at hp; simp at hp
      · exact absurd ⟨rfl, h'⟩ hn
      · exact .inr ⟨rfl, h'⟩
    · exact .inl h
  have a1 := k _ _ _ _ _ _ h1 h3
  have a2 := k _ _ _ _ _ _ h2 h4
  rcases cmpZ_cases s s'' with ⟨e, h⟩ | ⟨e, h⟩ | ⟨e, h⟩
  · omega
  · subst h
    rcases cmpZ_cases m m'' with ⟨e', h'⟩ | ⟨e', h'⟩ | ⟨e', h'⟩
    · omega
    · omega
    · unfold newI; rw [e, e']; simp
  · unfold newI; rw [e]; simp
end Go.Proofs.Ytmcemhkhgccojaa
