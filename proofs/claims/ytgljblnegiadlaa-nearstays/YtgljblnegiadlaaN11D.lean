/- Neighbors in plain data: lists by rising Id, the same ones of each Id, merging, the last one of each Id. -/
import Derived.Test.YtgljblnegiadlaaCP
namespace Go.Proofs.Ytgljblnegiadlaa
set_option linter.unusedVariables false
set_option linter.unusedSectionVars false

structure NearZ where
  (id addr prio dr bdr : Int) (two : Bool) (left : Int)
variable [Inhabited NearZ]
/-- Of each Id the same, in the same order. -/
def Same (l m : List NearZ) : Prop := ∀ k : Int, l.filter (fun n => n.id == k) = m.filter (fun n => n.id == k)
theorem Same.refl (l : List NearZ) : Same l l := fun _ => rfl
theorem Same.symm {l m : List NearZ} (h : Same l m) : Same m l := fun k => (h k).symm
theorem Same.trans {l m n : List NearZ} (h : Same l m) (h' : Same m n) : Same l n := fun k => (h k).trans (h' k)
theorem Same.app {a b c d : List NearZ} (h : Same a b) (k : Same c d) : Same (a ++ c) (b ++ d) := fun i => by rw [List.filter_append, List.filter_append, h i, k i]
theorem Same.mem {l m : List NearZ} (h : Same l m) (x : NearZ) : x ∈ l ↔ x ∈ m := by
  have e : ∀ l : List NearZ, x ∈ l ↔ x ∈ l.filter (fun n => n.id == x.id) := fun l => by simp
  rw [e l, e m, h]
theorem Same.swap {u v : List NearZ} (h : ∀ x ∈ u, ∀ y ∈ v, x.id ≠ y.id) : Same (v ++ u) (u ++ v) := fun k => by
  rw [List.filter_append, List.filter_append]
  by_cases hu : u.filter (fun n => n.id == k) = []
  · rw [hu]; simp
  · obtain ⟨x, hx⟩ := List.exists_mem_of_ne_nil _ hu
    rw [List.mem_filter] at hx
    have hv : v.filter (fun n => n.id == k) = [] := by
      rw [List.filter_eq_nil_iff]
      intro y hy hk
      have h1 := h x hx.1 y hy
      have h2 : x.id = k := by simpa using hx.2
      have h3 : y.id = k := by simpa using hk
      exact h1 (by omega)
    rw [hv]; simp
def Rise (l : List NearZ) : Prop := l.Pairwise (fun a b => a.id ≤ b.id)
theorem Rise.app {l m : List NearZ} : Rise (l ++ m) ↔ Rise l ∧ Rise m ∧ ∀ x ∈ l, ∀ y ∈ m, x.id ≤ y.id := by unfold Rise; rw [List.pairwise_append]
theorem Rise.one (x : NearZ) : Rise [x] := by unfold Rise; simp
theorem Rise.nil : Rise [] := by unfold Rise; simp
theorem Rise.take {l : List NearZ} (h : Rise l) (k : Nat) : Rise (l.take k) := List.Pairwise.sublist (List.take_sublist _ _) h
theorem Rise.drop {l : List NearZ} (h : Rise l) (k : Nat) : Rise (l.drop k) := List.Pairwise.sublist (List.drop_sublist _ _) h
/-- M is X in its order. -/
def Srt (M X : List NearZ) : Prop := Rise M ∧ Same M X ∧ M.length = X.length
theorem Srt.self {X : List NearZ} (h : Rise X) : Srt X X := ⟨h, Same.refl _, rfl⟩
theorem Srt.mem {M X : List NearZ} (h : Srt M X) (x : NearZ) : x ∈ M ↔ x ∈ X := h.2.1.mem x
theorem Srt.of {M X Y : List NearZ} (h : Srt M X) (k : Same X Y) (hl : X.length = Y.length) : Srt M Y := ⟨h.1, h.2.1.trans k, h.2.2.trans hl⟩
theorem srt_merge {X1 X2 Y1 Y2 M1 M2 : List NearZ} (hX : Rise (X1 ++ X2)) (hY : Rise (Y1 ++ Y2)) (h1 : ∀ x ∈ X2, ∀ y ∈ Y1, y.id < x.id) (h2 : ∀ x ∈ X1, ∀ y ∈ Y2, x.id ≤ y.id)
    (m1 : Srt M1 (X1 ++ Y1)) (m2 : Srt M2 (X2 ++ Y2)) : Srt (M1 ++ M2) (X1 ++ X2 ++ (Y1 ++ Y2)) := by
  rw [Rise.app] at hX hY
  refine ⟨Rise.app.2 ⟨m1.1, m2.1, fun x hx y hy => ?_⟩, ?_, ?_⟩
  · rw [m1.mem, List.mem_append] at hx
    rw [m2.mem, List.mem_append] at hy
    rcases hx with hx | hx <;> rcases hy with hy | hy
    · exact hX.2.2 x hx y hy
    · exact h2 x hx y hy
    · have := h1 y hy x hx; omega
    · exact hY.2.2 x hx y hy
  · refine (m1.2.1.app m2.2.1).trans ?_
    have e : Same (Y1 ++ X2) (X2 ++ Y1) := Same.swap fun x hx y hy => by have := h1 x hx y hy; omega
    have := ((Same.refl X1).app e).app (Same.refl Y2)
    simpa [List.append_assoc] using this
  · simp [List.length_append, m1.2.2, m2.2.2]; omega
/-- One behind its place in a list that rises. -/
theorem srt_right {x : NearZ} {Y1 Y2 : List NearZ} (hY : Rise (Y1 ++ Y2)) (h1 : ∀ y ∈ Y1, y.id < x.id) (h2 : ∀ y ∈ Y2, x.id ≤ y.id) : Srt (Y1 ++ [x] ++ Y2) ([x] ++ (Y1 ++ Y2)) := by
  have hY' := Rise.app.1 hY
  have := srt_merge (X1 := []) (X2 := [x]) (Y1 := Y1) (Y2 := Y2) (M1 := Y1) (M2 := [x] ++ Y2) (by simpa using Rise.one x) hY (fun a ha y hy => by simp at ha; subst ha; exact h1 y hy) (fun a ha => by simp at ha) (by simpa using Srt.self hY'.1)
    (Srt.self (Rise.app.2 ⟨Rise.one x, hY'.2.1, fun a ha y hy => by simp at ha; subst ha; exact h2 y hy⟩))
  simpa [List.append_assoc] using this
theorem srt_left {y : NearZ} {X1 X2 : List NearZ} (hX : Rise (X1 ++ X2)) (h1 : ∀ x ∈ X1, x.id ≤ y.id) (h2 : ∀ x ∈ X2, y.id < x.id) : Srt (X1 ++ [y] ++ X2) (X1 ++ X2 ++ [y]) := by
  have hX' := Rise.app.1 hX
  have := srt_merge (X1 := X1) (X2 := X2) (Y1 := [y]) (Y2 := []) (M1 := X1 ++ [y]) (M2 := X2) hX (by simpa using Rise.one y) (fun a ha z hz => by simp at hz; subst hz; exact h2 a ha) (fun a ha z hz => by simp at hz)
    (Srt.self (Rise.app.2 ⟨hX'.1, Rise.one y, fun a ha z hz => by simp at hz; subst hz; exact h1 a ha⟩)) (by simpa using Srt.self hX'.2.1)
  simpa [List.append_assoc] using this
/-- The Id at a place. -/
def ix (L : List NearZ) (t : Nat) : Int := (L[t]!).id
theorem ix_right (A B : List NearZ) (t : Nat) (h : A.length ≤ t) : ix (A ++ B) t = ix B (t - A.length) := by unfold ix; simp only [List.getElem!_eq_getElem?_getD, List.getElem?_append_right h]
theorem ix_left (A B : List NearZ) (t : Nat) (h : t < A.length) : ix (A ++ B) t = ix A t := by unfold ix; simp only [List.getElem!_eq_getElem?_getD, List.getElem?_append_left h]
theorem ix_at (L : List NearZ) (t : Nat) (h : t < L.length) : ix L t = L[t].id := by unfold ix; rw [getElem!_pos L t h]
theorem Rise.ix {L : List NearZ} (h : Rise L) {s t : Nat} (hst : s ≤ t) (ht : t < L.length) : ix L s ≤ ix L t := by
  rcases Nat.lt_or_eq_of_le hst with hlt | rfl
  · rw [ix_at L s (by omega), ix_at L t ht]; exact List.pairwise_iff_getElem.1 h s t (by omega) ht hlt
  · exact Int.le_refl _
theorem mem_take_ix {L : List NearZ} {k : Nat} {x : NearZ} (h : x ∈ L.take k) : ∃ t, t < k ∧ t < L.length ∧ x.id = ix L t := by
  obtain ⟨t, ht, e⟩ := List.mem_iff_getElem.1 h
  rw [List.length_take] at ht
  rw [List.getElem_take] at e
  exact ⟨t, by omega, by omega, by rw [ix_at L t (by omega), e]⟩
theorem mem_drop_ix {L : List NearZ} {k : Nat} {x : NearZ} (h : x ∈ L.drop k) : ∃ t, k ≤ t ∧ t < L.length ∧ x.id = ix L t := by
  obtain ⟨t, ht, e⟩ := List.mem_iff_getElem.1 h
  rw [List.length_drop] at ht
  rw [List.getElem_drop] at e
  exact ⟨k + t, by omega, by omega, by rw [ix_at L (k + t) (by omega), e]⟩
/-- Two that rise, and have the same of each Id, are one. -/
theorem rise_one : ∀ {a b : List NearZ}, Rise a → Rise b → Same a b → a = b
  | [], b, _, _, h => by
    cases b with
    | nil => rfl
    | cons y b => have := (h.mem y).2 (by simp); simp at this
  | x :: a, [], _, _, h => by have := (h.mem x).1 (by simp); simp at this
  | x :: a, y :: b, ha, hb, h => by
    have ha' := List.pairwise_cons.1 ha
    have hb' := List.pairwise_cons.1 hb
    have hid : x.id = y.id := by
      have h1 := (h.mem x).1 (by simp)
      have h2 := (h.mem y).2 (by simp)
      rw [List.mem_cons] at h1 h2
      have p : y.id ≤ x.id := by rcases h1 with rfl | h1; · exact Int.le_refl _
                                 · exact hb'.1 x h1
      have q : x.id ≤ y.id := by rcases h2 with rfl | h2; · exact Int.le_refl _
                                 · exact ha'.1 y h2
      omega
    have hk := h x.id
    rw [List.filter_cons, List.filter_cons, if_pos (by simp), if_pos (by simp [hid])] at hk
    have hxy : x = y := (List.cons.inj hk).1
    subst hxy
    have ht : Same a b := fun k => by
      have := h k
      rw [List.filter_cons, List.filter_cons] at this
      by_cases e : (x.id == k) = true
      · rw [if_pos e, if_pos e] at this; exact (List.cons.inj this).2
      · rw [if_neg e, if_neg e] at this; exact this
    rw [rise_one ha'.2 hb'.2 ht]
/-- The last one of an Id, in a list. -/
def lastK (L : List NearZ) (k : Int) : List NearZ := (L.filter (fun n => n.id == k)).getLast?.toList
/-- As if each Id had its last one. -/
def lastsZ : List NearZ → List NearZ
  | [] => []
  | [x] => [x]
  | x :: y :: r => if x.id = y.id then lastsZ (y :: r) else x :: lastsZ (y :: r)
theorem lasts_mem : ∀ (L : List NearZ) (x : NearZ), x ∈ lastsZ L → x ∈ L
  | [], x, h => h
  | [y], x, h => h
  | y :: z :: r, x, h => by
    unfold lastsZ at h
    split at h
    · exact List.mem_cons_of_mem _ (lasts_mem (z :: r) x h)
    · rcases List.mem_cons.1 h with rfl | h
      · simp
      · exact List.mem_cons_of_mem _ (lasts_mem (z :: r) x h)
theorem lasts_rise : ∀ {L : List NearZ}, Rise L → (lastsZ L).Pairwise (fun a b => a.id < b.id) ∧ ∀ k, (lastsZ L).filter (fun n => n.id == k) = lastK L k
  | [], _ => ⟨List.Pairwise.nil, fun k => rfl⟩
  | [x], _ => ⟨by unfold lastsZ; simp, fun k => by unfold lastsZ lastK; by_cases h : x.id = k <;> simp [h]⟩
  | x :: y :: r, h => by
    have h' := List.pairwise_cons.1 h
    obtain ⟨ih1, ih2⟩ := lasts_rise (L := y :: r) h'.2
    by_cases e : x.id = y.id
    · have e' : lastsZ (x :: y :: r) = lastsZ (y :: r) := by conv => lhs; unfold lastsZ; rw [if_pos e]
      rw [e']
      refine ⟨ih1, fun k => ?_⟩
      rw [ih2 k]
      unfold lastK
      by_cases hk : x.id = k
      · have hy : y.id = k := by omega
        simp [hk, hy]
      · rw [List.filter_cons (x := x), if_neg (by simpa using hk)]
    · have e' : lastsZ (x :: y :: r) = x :: lastsZ (y :: r) := by conv => lhs; unfold lastsZ; rw [if_neg e]
      rw [e']
      have hlt : ∀ z ∈ y :: r, x.id < z.id := fun z hz => by
        have h1 : x.id < y.id := by have := h'.1 y (by simp); omega
        rcases List.mem_cons.1 hz with rfl | hz
        · exact h1
        · have := (List.pairwise_cons.1 h'.2).1 z hz; omega
      refine ⟨List.pairwise_cons.2 ⟨fun z hz => hlt z (lasts_mem _ _ hz), ih1⟩, fun k => ?_⟩
      unfold lastK at ih2 ⊢
      by_cases hk : x.id = k
      · have hz : (y :: r).filter (fun n => n.id == k) = [] := by
          rw [List.filter_eq_nil_iff]; intro z hz; have := hlt z hz; simp; omega
        rw [List.filter_cons, if_pos (by simpa using hk), ih2 k, List.filter_cons (x := x), if_pos (by simpa using hk), hz]
        rfl
      · rw [List.filter_cons, if_neg (by simpa using hk), ih2 k, List.filter_cons (x := x), if_neg (by simpa using hk)]
/-- By rising Ids, each once. -/
def Strict (L : List NearZ) : Prop := L.Pairwise (fun a b => a.id < b.id)
theorem Strict.rise {L : List NearZ} (h : Strict L) : Rise L := List.Pairwise.imp (fun h => Int.le_of_lt h) h
/-- One more, in its place, or in the place of its Id. -/
def withZ : List NearZ → NearZ → List NearZ
  | [], x => [x]
  | y :: r, x => if y.id < x.id then y :: withZ r x else if y.id = x.id then x :: r else x :: y :: r
theorem with_mem : ∀ {L : List NearZ} {x z : NearZ}, z ∈ withZ L x → z = x ∨ z ∈ L
  | [], x, z, h => by simp [withZ] at h; exact .inl h
  | y :: r, x, z, h => by
    unfold withZ at h
    split at h
    · rcases List.mem_cons.1 h with rfl | h
      · exact .inr (by simp)
      · rcases with_mem h with h | h
        · exact .inl h
        · exact .inr (by simp [h])
    · split at h <;> simp at h ⊢ <;> rcases h with h | h <;> simp [h]
theorem with_strict : ∀ {L : List NearZ}, Strict L → ∀ x, Strict (withZ L x) ∧ ∀ k, (withZ L x).filter (fun n => n.id == k) = if x.id = k then [x] else L.filter (fun n => n.id == k)
  | [], _, x => ⟨by unfold withZ Strict; simp, fun k => by unfold withZ; by_cases h : x.id = k <;> simp [h]⟩
  | y :: r, h, x => by
    have h' := List.pairwise_cons.1 h
    obtain ⟨ih1, ih2⟩ := with_strict (L := r) h'.2 x
    unfold withZ
    by_cases e : y.id < x.id
    · rw [if_pos e]
      refine ⟨List.pairwise_cons.2 ⟨fun z hz => ?_, ih1⟩, fun k => ?_⟩
      · rcases with_mem hz with rfl | hz
        · exact e
        · exact h'.1 z hz
      · by_cases hk : x.id = k
        · rw [List.filter_cons, if_neg (by simp; omega), ih2 k, if_pos hk, if_pos hk]
        · rw [List.filter_cons, ih2 k, if_neg hk, if_neg hk, List.filter_cons]
    · rw [if_neg e]
      by_cases e2 : y.id = x.id
      · rw [if_pos e2]
        refine ⟨List.pairwise_cons.2 ⟨fun z hz => by have := h'.1 z hz; omega, h'.2⟩, fun k => ?_⟩
        by_cases hk : x.id = k
        · have hr : r.filter (fun n => n.id == k) = [] := by
            rw [List.filter_eq_nil_iff]; intro z hz; have := h'.1 z hz; simp; omega
          rw [List.filter_cons, if_pos (by simpa using hk), hr, if_pos hk]
        · rw [List.filter_cons, if_neg (by simpa using hk), if_neg hk, List.filter_cons, if_neg (by simp; omega)]
      · rw [if_neg e2]
        have hlt : ∀ z ∈ y :: r, x.id < z.id := fun z hz => by
          rcases List.mem_cons.1 hz with rfl | hz
          · omega
          · have := h'.1 z hz; omega
        refine ⟨List.pairwise_cons.2 ⟨hlt, h⟩, fun k => ?_⟩
        by_cases hk : x.id = k
        · have hr : (y :: r).filter (fun n => n.id == k) = [] := by
            rw [List.filter_eq_nil_iff]; intro z hz; have := hlt z hz; simp; omega
          rw [List.filter_cons, if_pos (by simpa using hk), hr, if_pos hk]
        · rw [List.filter_cons, if_neg (by simpa using hk), if_neg hk]
/-- A list as all calls take it: of each Id the last one, by rising Id. -/
def orderZ (L : List NearZ) : List NearZ := L.foldl withZ []
theorem order_from : ∀ (L A : List NearZ), Strict A → Strict (L.foldl withZ A) ∧ ∀ k, (L.foldl withZ A).filter (fun n => n.id == k) = (A.filter (fun n => n.id == k) ++ L.filter (fun n => n.id == k)).getLast?.toList
  | [], A, h => ⟨h, fun k => by
    have hA : ∀ B : List NearZ, Strict B → B.filter (fun n => n.id == k) = (B.filter (fun n => n.id == k)).getLast?.toList := fun B hB => by
      have hf : ((B.filter (fun n => n.id == k)).Pairwise (fun a b => a.id < b.id)) := List.Pairwise.sublist List.filter_sublist hB
      have hm : ∀ z ∈ B.filter (fun n => n.id == k), z.id = k := fun z hz => by simpa using (List.mem_filter.1 hz).2
      match he : B.filter (fun n => n.id == k) with
      | [] => rw [he]; rfl
      | [z] => rw [he]; rfl
      | z :: u :: r =>
        rw [he] at hf hm
        have h1 := (List.pairwise_cons.1 hf).1 u (by simp)
        have h2 := hm z (by simp)
        have h3 := hm u (by simp)
        omega
    simp only [List.foldl_nil, List.filter_nil, List.append_nil]
    exact hA A h⟩
  | x :: L, A, h => by
    obtain ⟨h1, h2⟩ := with_strict h x
    obtain ⟨i1, i2⟩ := order_from L (withZ A x) h1
    rw [List.foldl_cons]
    refine ⟨i1, fun k => ?_⟩
    rw [i2 k, h2 k, List.filter_cons]
    by_cases hk : x.id = k
    · rw [if_pos hk, if_pos (by simpa using hk)]
      cases hl : L.filter (fun n => n.id == k) with
      | nil => simp
      | cons z r =>
        have e : ∀ U : List NearZ, (U ++ z :: r).getLast? = (z :: r).getLast? := fun U => by
          rw [List.getLast?_append]
          cases h : (z :: r).getLast? with
          | none => simp at h
          | some v => rfl
        rw [e, show (List.filter (fun n => n.id == k) A ++ x :: z :: r) = (List.filter (fun n => n.id == k) A ++ [x]) ++ z :: r by simp, e]
    · rw [if_neg hk, if_neg (by simpa using hk)]
theorem order_strict (L : List NearZ) : Strict (orderZ L) := (order_from L [] List.Pairwise.nil).1
theorem order_last (L : List NearZ) (k : Int) : (orderZ L).filter (fun n => n.id == k) = lastK L k := by
  have := (order_from L [] List.Pairwise.nil).2 k
  rw [List.filter_nil, List.nil_append] at this
  exact this
theorem lasts_order {M L : List NearZ} (h : Srt M L) : lastsZ M = orderZ L := by
  obtain ⟨h1, h2⟩ := lasts_rise h.1
  refine rise_one (Strict.rise h1) (Strict.rise (order_strict L)) fun k => ?_
  rw [h2 k, order_last]
  unfold lastK
  rw [h.2.1 k]
theorem order_self {L : List NearZ} (h : Strict L) : orderZ L = L := by
  refine rise_one (Strict.rise (order_strict L)) (Strict.rise h) fun k => ?_
  rw [order_last]
  unfold lastK
  match he : L.filter (fun n => n.id == k) with
  | [] => rw [he]; rfl
  | [z] => rw [he]; rfl
  | z :: u :: r =>
    have hf : ((L.filter (fun n => n.id == k)).Pairwise (fun a b => a.id < b.id)) := List.Pairwise.sublist List.filter_sublist h
    have hm : ∀ z ∈ L.filter (fun n => n.id == k), z.id = k := fun z hz => by simpa using (List.mem_filter.1 hz).2
    rw [he] at hf hm
    have h1 := (List.pairwise_cons.1 hf).1 u (by simp)
    have h2 := hm z (by simp)
    have h3 := hm u (by simp)
    omega
theorem with_length : ∀ (L : List NearZ) (x : NearZ), (withZ L x).length ≤ L.length + 1
  | [], _ => by simp [withZ]
  | y :: r, x => by
    unfold withZ
    split
    · have := with_length r x; simp; omega
    · split <;> simp
theorem order_length (L : List NearZ) : (orderZ L).length ≤ L.length := by
  have : ∀ (L A : List NearZ), (L.foldl withZ A).length ≤ A.length + L.length := by
    intro L
    induction L with
    | nil => intro A; simp
    | cons x L ih => intro A; have h1 := ih (withZ A x); have h2 := with_length A x; simp at *; omega
  have := this L []
  rw [List.length_nil, Nat.zero_add] at this
  exact this
end Go.Proofs.Ytgljblnegiadlaa
