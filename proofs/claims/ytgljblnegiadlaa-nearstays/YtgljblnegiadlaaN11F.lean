/- Package near: Fade. -/
import Derived.Test.YtgljblnegiadlaaN11H
namespace Go.Proofs.Ytgljblnegiadlaa
open Go.RowKit Go.Sort Go.Lib
set_option linter.unusedVariables false
set_option linter.unusedSectionVars false
variable [Inhabited NearZ]

theorem own_keep {w w' : World} {base e size n : Nat} {v : Value} {xs : List Value} {r : Option Nat} (h : w.ownsRow base e size v n xs) (hg : w.grownBy w' r) (hne : ∀ k, v.ownBlock = some k → r ≠ some k) : w'.ownsRow base e size v n xs := by
  rcases h.2 with ⟨h', h0⟩ | ⟨g', cap', cur, h', hbg, hgh, rr⟩
  · exact ⟨h.1, .inl ⟨h', h0⟩⟩
  · have hlt := World.ownsRow.lt h g' (by rw [h']; rfl)
    exact ⟨h.1, .inr ⟨g', cap', cur, h', hbg, by rw [hg.block _ hlt.2 (hne g' (by rw [h']; rfl)).symm]; exact hgh, rr⟩⟩
/-- A list of numbers of the call's own. -/
def OwnI (w : World) (base : Nat) (v : Value) (zs : List Int) : Prop := w.ownsRow base 3 1 v zs.length (cellsOf intC zs)
theorem ints_len (zs : List Int) : (cellsOf intC zs).length = zs.length * 1 := cellsOf_length intC 1 (fun _ => rfl) zs
theorem ownI_nil (w : World) (base : Nat) : OwnI w base (.slice none 0 0) [] := World.ownsRow_nil w base _ _
theorem OwnI.below {w w' : World} {base : Nat} {v : Value} {L : List Int} (h : OwnI w base v L) (hb : Below w.heap.size w w') : OwnI w' base v L := row_below h hb
theorem OwnI.base {w : World} {base base' : Nat} {v : Value} {L : List Int} (h : OwnI w base v L) (hb : base' ≤ base) : OwnI w base' v L := ownsRow_base h hb
theorem OwnI.more {w : World} {base : Nat} {v : Value} {L : List Int} (h : OwnI w base v L) : ∃ a c, v = .slice a L.length c ∧ Lies w a (cellsOf intC L) := by
  rcases h.2 with ⟨h1, h2⟩ | ⟨g, cap, cur, h1, h2, h3, h4, _⟩
  · have hL : L = [] := List.eq_nil_of_length_eq_zero h2
    subst hL
    exact ⟨none, 0, h1, .inl rfl⟩
  · subst h1
    exact ⟨_, _, rfl, owns_lies h⟩
/-- Two lists of the call's own, neighbors and numbers. -/
def Two2 (w : World) (N : Nat) (v : Value) (A : List NearZ) (u : Value) (B : List Int) : Prop := OwnN w N v A ∧ OwnI w N u B ∧ ∀ k, v.ownBlock = some k → u.ownBlock ≠ some k
theorem Two2.below {w w' : World} {N : Nat} {v u : Value} {A : List NearZ} {B : List Int} (h : Two2 w N v A u B) (hb : Below w.heap.size w w') : Two2 w' N v A u B := ⟨h.1.below hb, h.2.1.below hb, h.2.2⟩
theorem two_nil (w : World) (N : Nat) : Two2 w N (.slice none 0 0) [] (.slice none 0 0) [] := ⟨ownN_nil _ _, ownI_nil _ _, fun k hk => by cases hk⟩
theorem wp_two_near {ops : Array Oper} {rest : List Oper} {o : Oper} {a : Act} {Q : Exit → Act → World → Prop} (W : World) (M : Nat) (hM : M = W.heap.size) (hgd : o.guard = none) (s x : Operand)
    (ho : o.op = .call { callee := .builtin .append, args := #[s, x], argTypes := #[22, 22] }) (N : Nat) (v u : Value) (A : List NearZ) (B : List Int) (hs : a.eval s = v) (hown : Two2 W N v A u B) (c : NearZ)
    (hx : a.eval x = .slice (some ⟨M, 0, none⟩) 1 1) (hl : A.length + 1 ≤ 1000000) (hN : N ≤ W.heap.size)
    (h : ∀ v' w', Two2 w' N v' (A ++ [c]) u B → Below N W w' → wpList Try.prog ops Q rest (a.put o.dst v') w') : wpList Try.prog ops Q (o :: rest) a (W.alloc (.cells (nearA c) 42)) := by
  subst hM
  obtain ⟨i, hi, hz0, hz1, hz2⟩ := info_parts info_near
  have hB : Below W.heap.size W (W.alloc (.cells (nearA c) 42)) := below_new' _ _
  have hW := hown.below hB
  refine wpList_append_hence (W.alloc (.cells (nearA c) 42)) hgd s x 22 ho N 42 i _ 7 56 Try.underlying22 hi hz0 hz1 hz2 rfl (by decide) v A.length _ hs hW.1 _ 1 1 (nearC c) hx rfl (lies_new W (nearC c) _).at (nearC_one c) (by unfold maxLen; omega) (by omega) (by simp; omega) ?_
  intro v' w' h1 h2 h3
  refine h v' w' ⟨?_, own_keep hW.2.1 h2 (fun k hk hv => hW.2.2 k hv hk), fun k hk hu => ?_⟩ ((hB.mono hN).trans ((Below.refl _ _).grown h2 (by simp; omega) (fun k hk => (World.ownsRow.lt hW.1 k hk).1)))
  · unfold OwnN
    rw [nears_app, List.length_append, show cellsOf nearC [c] = nearC c by unfold cellsOf; simp]
    exact h1
  · rcases h3 with h3 | h3
    · rw [h3] at hk; exact hW.2.2 k hk hu
    · have := h3 k hk
      have := (World.ownsRow.lt hW.2.1 k hu).2
      omega
theorem lies_int (W : World) (z : Int) : Lies (W.alloc (.cells #[.int .i64 z] 3)) (some ⟨W.heap.size, 0, none⟩) (intC z) := lies_new W (intC z) _
theorem wp_two_int {ops : Array Oper} {rest : List Oper} {o : Oper} {a : Act} {Q : Exit → Act → World → Prop} (W : World) (M : Nat) (hM : M = W.heap.size) (hgd : o.guard = none) (s x : Operand)
    (ho : o.op = .call { callee := .builtin .append, args := #[s, x], argTypes := #[23, 23] }) (N : Nat) (v u : Value) (A : List NearZ) (B : List Int) (hs : a.eval s = u) (hown : Two2 W N v A u B) (z : Int)
    (hx : a.eval x = .slice (some ⟨M, 0, none⟩) 1 1) (hl : B.length + 1 ≤ 1000000) (hN : N ≤ W.heap.size)
    (h : ∀ u' w', Two2 w' N v A u' (B ++ [z]) → Below N W w' → wpList Try.prog ops Q rest (a.put o.dst u') w') : wpList Try.prog ops Q (o :: rest) a (W.alloc (.cells #[.int .i64 z] 3)) := by
  subst hM
  obtain ⟨i, hi, hz0, hz1, hz2⟩ := info_parts info_int
  have hB : Below W.heap.size W (W.alloc (.cells #[.int .i64 z] 3)) := below_new' _ _
  have hW := hown.below hB
  refine wpList_append_hence (W.alloc (.cells #[.int .i64 z] 3)) hgd s x 23 ho N 3 i _ 1 8 Try.underlying23 hi hz0 hz1 hz2 rfl (by decide) u B.length _ hs hW.2.1 _ 1 1 (intC z) hx rfl (lies_int W z).at (by intro v hv; simp [intC] at hv; subst hv; rfl) (by unfold maxLen; omega) (by omega) (by simp; omega) ?_
  intro u' w' h1 h2 h3
  refine h u' w' ⟨own_keep hW.1 h2 (fun k hk hv => hW.2.2 k hk hv), ?_, fun k hk hu => ?_⟩ ((hB.mono hN).trans ((Below.refl _ _).grown h2 (by simp; omega) (fun k hk => (World.ownsRow.lt hW.2.1 k hk).1)))
  · unfold OwnI
    rw [List.length_append, show cellsOf intC (B ++ [z]) = cellsOf intC B ++ intC z by unfold cellsOf; simp]
    exact h1
  · rcases h3 with h3 | h3
    · rw [h3] at hu; exact hW.2.2 k hk hu
    · have := h3 k hu
      have := (World.ownsRow.lt hW.1 k hk).2
      omega
def stepN (n : NearZ) : NearZ := { n with left := n.left - 1 }
def fadeN (O : List NearZ) : List NearZ := (O.filter (fun n => decide (1 < n.left))).map stepN
def fadeG (O : List NearZ) : List Int := (O.filter (fun n => decide (n.left ≤ 1))).map (fun n => n.id)
theorem fade_go (O : List NearZ) (i : Nat) (hi : i < O.length) (h : O[i].left ≤ 1) : fadeN (O.take (i + 1)) = fadeN (O.take i) ∧ fadeG (O.take (i + 1)) = fadeG (O.take i) ++ [O[i].id] := by
  unfold fadeN fadeG
  rw [List.take_add_one, List.getElem?_eq_getElem hi]
  simp only [Option.toList_some, List.filter_append, List.map_append]
  have h1 : ¬ 1 < O[i].left := by omega
  simp [h, h1]
theorem fade_stay (O : List NearZ) (i : Nat) (hi : i < O.length) (h : 1 < O[i].left) : fadeN (O.take (i + 1)) = fadeN (O.take i) ++ [stepN O[i]] ∧ fadeG (O.take (i + 1)) = fadeG (O.take i) := by
  unfold fadeN fadeG
  rw [List.take_add_one, List.getElem?_eq_getElem hi]
  simp only [Option.toList_some, List.filter_append, List.map_append]
  have h1 : ¬ O[i].left ≤ 1 := by omega
  simp [h, h1]
theorem fadeN_len (O : List NearZ) : (fadeN O).length ≤ O.length := by unfold fadeN; rw [List.length_map]; exact List.length_filter_le _ _
theorem fadeG_len (O : List NearZ) : (fadeG O).length ≤ O.length := by unfold fadeG; rw [List.length_map]; exact List.length_filter_le _ _
theorem order_mem {L : List NearZ} {x : NearZ} (h : x ∈ orderZ L) : x ∈ L := by
  have h1 : x ∈ (orderZ L).filter (fun n => n.id == x.id) := by simp [h]
  rw [order_last] at h1
  unfold lastK at h1
  have h2 : (L.filter (fun n => n.id == x.id)).getLast? = some x := by simpa using h1
  have h3 := List.mem_of_getLast? h2
  exact (List.mem_filter.1 h3).1
def FadeEnd (w : World) (O : List NearZ) (e : Ending) (w' : World) : Prop := ∃ v u, e = .returned (.tuple #[v, u]) ∧ Two2 w' w.heap.size v (fadeN O) u (fadeG O) ∧ Below w.heap.size w w'
set_option maxHeartbeats 4000000 in
set_option maxRecDepth 20000 in
theorem fade_any (a : Option Addr) (n cap : Nat) (L : List NearZ) (w : World) (hn : n = L.length) (hL : Lies w a (cellsOf nearC L)) (hnil : a = none → cap = 0) (hl : L.length ≤ 100000) (h64 : ∀ x ∈ L, x.left ≤ 9223372036854775807) :
    Calls Try.prog 7 #[.slice a n cap] w (FadeEnd w (orderZ L)) := by
  have CO := inOrder_any a n cap L w hn hL hnil (by omega)
  have HO64 : Hid (∀ x ∈ orderZ L, x.left ≤ 9223372036854775807) := fun x hx => h64 x (order_mem hx)
  have HOLN : Hid ((orderZ L).length ≤ 100000) := Nat.le_trans (order_length L) hl
  obtain ⟨O, hO⟩ : ∃ O, orderZ L = O := ⟨_, rfl⟩
  unfold OrderEnd at CO
  rw [hO] at CO HO64 HOLN ⊢
  clear hL hnil hn hl hO h64
  go_enter Try.func7, Try.ntmps7
  go_wp2_with fail
  refine CO.mono ?_
  rintro e w1 ⟨v1, rfl, ho1, hb1⟩
  obtain ⟨a1, c1, e1, hl1, -, -, -⟩ := OwnN.more ho1
  subst e1
  have HL1 : Hid (∀ X, Below w1.heap.size w1 X → Lies X a1 (cellsOf nearC O)) := fun X h => hl1.below h
  have HB1 : Hid (Below w.heap.size w w1) := hb1
  obtain ⟨m, hm⟩ : ∃ m, O.length = m := ⟨_, rfl⟩
  have HM : Hid (O.length = m) := hm
  have hm1 : m ≤ 100000 := by rw [← hm]; exact HOLN.out
  have HW1 : Hid (w.heap.size ≤ w1.heap.size) := hb1.size
  rw [hm]
  clear ho1 hb1 hl1 CO hm HOLN
  go_wp2_with fail
  go_loopg [2, 3, 5, 9] m (fun gk v2 v3 v5 v9 wr => ∃ i : Nat, v9 = .int .i64 i ∧ i ≤ m ∧ m - i ≤ gk ∧ Hid (Two2 wr w1.heap.size v2 (fadeN (O.take i)) v3 (fadeG (O.take i))) ∧ Hid (Below w1.heap.size w1 wr))
  case atStart => exact ⟨0, rfl, by omega, by omega, two_nil _ _, Below.refl _ _⟩
  case round =>
    obtain ⟨i, rfl, hin, hgk, HT, HB⟩ := hrel
    by_cases hlt : i < m
    · have hltz : (i : Int) < (m : Int) := by omega
      have hiO : i < O.length := by rw [HM.out]; exact hlt
      obtain ⟨b, off, rfl, c0, k1, c2, c3, c4, c5, c6⟩ := Nears.cells (HL1.out wr HB.out) i hiO
      have HG := fade_go O i hiO
      have HS := fade_stay O i hiO
      have H64 : Hid (O[i].left ≤ 9223372036854775807) := HO64.out _ (List.getElem_mem hiO)
      have hln : (fadeN (O.take i)).length ≤ i ∧ (fadeG (O.take i)).length ≤ i := ⟨Nat.le_trans (fadeN_len _) (by rw [List.length_take]; omega), Nat.le_trans (fadeG_len _) (by rw [List.length_take]; omega)⟩
      obtain ⟨x, hx⟩ : ∃ x, O[i] = x := ⟨_, rfl⟩
      rw [hx] at c0 k1 c2 c3 c4 c5 c6 HG HS H64
      obtain ⟨A, hA⟩ : ∃ A, fadeN (O.take i) = A := ⟨_, rfl⟩
      obtain ⟨G, hG⟩ : ∃ G, fadeG (O.take i) = G := ⟨_, rfl⟩
      rw [hA, hG] at HT hln HG HS
      have HGG : Hid _ := HG
      have HSS : Hid _ := HS
      have HLN : Hid _ := hln
      have HT1 : Hid (Two2 (wr.alloc (.cells (nearA x) 42)) w1.heap.size u2 A u3 G) := HT.out.below (below_new' _ _)
      have HX : Hid (Var (wr.alloc (.cells (nearA x) 42)) wr.heap.size (nearC x)) := var_new wr (nearC x) _
      have HB1' : Hid (Below w1.heap.size w1 (wr.alloc (.cells (nearA x) 42))) := HB.out.alloc HB.out.size _
      clear hx hA hG HG HS hln hiO
      go_upto_region 4 with fail
      have hlow : Below wr.heap.size wr (wr.alloc (.cells (nearA x) 42)) := below_new' _ _
      obtain ⟨nb, hnb⟩ : ∃ nb, wr.heap.size = nb := ⟨_, rfl⟩
      have HLW : Hid (∀ z, Two2 ((wr.alloc (.cells (nearA x) 42)).setCell ⟨nb, 6, none⟩ z) w1.heap.size u2 A u3 G ∧ Below w1.heap.size w1 ((wr.alloc (.cells (nearA x) 42)).setCell ⟨nb, 6, none⟩ z)) := fun z => by
        have hx : wr.heap.size ≤ (⟨nb, 6, none⟩ : Addr).block := by show wr.heap.size ≤ nb; omega
        exact ⟨HT.out.below (hlow.setCell hx z), below_more HB.out (hlow.setCell hx z) HB.out.size⟩
      rw [hnb] at HX ⊢
      generalize wr.alloc (.cells (nearA x) 42) = V at *
      clear hnb hlow HT c0 k1 c2 c3 c4 c5 c6
      have d0 := HX.out.cell 0 rfl
      have d6 := HX.out.cell 6 rfl
      have f6 := HX.out.frozen 6
      by_cases hle : x.left ≤ 1
      · have HGO := HGG.out hle
        go_wp2_with (at_builtin; go_must (refine wp_two_int V _ rfl rfl _ _ rfl w1.heap.size u2 u3 A G rfl HT1.out x.id rfl (by have := HLN.out.2; omega) HB1'.out.size ?_))
        intro v' w' ht hb
        have HT9 : Hid (Two2 w' w1.heap.size u2 (fadeN (O.take (i + 1))) v' (fadeG (O.take (i + 1)))) := by
          rw [HGO.1, HGO.2]; exact ht
        have HB9 : Hid (Below w1.heap.size w1 w') := below_more HB1'.out hb (Nat.le_refl _)
        clear ht hb HGO HT1 HB1' HX d0 d6 f6 HLW HSS HGG
        go_wp2
        go_roundg (m - (i + 1))
        case measure => omega
        case rel => exact ⟨i + 1, by go_num, by omega, Nat.le_refl _, HT9, HB9⟩
      · have HST := HSS.out (by omega)
        have hwl : IntKind.i64.wrap (x.left - 1) = x.left - 1 := by have := H64.out; rw [IntKind.wrap_i64]; omega
        have HV2 : Hid (Var (V.setCell ⟨nb, 6, none⟩ (.int .i64 (x.left - 1))) nb (nearC (stepN x))) := HX.out.set 6 _
        have HL2 : Hid _ := HLW.out (.int .i64 (x.left - 1))
        have h64a := H64.out
        have hlo : 1 < x.left := by omega
        have HLE : Hid (¬ x.left ≤ 1) := hle
        go_upto_region 7 with fail
        generalize V.setCell ⟨nb, 6, none⟩ (.int .i64 (x.left - 1)) = V2 at *
        clear d0 d6 f6 HX HT1 HB1' HLW
        have d0 := HV2.out.cell 0 rfl
        have d1 := HV2.out.cell 1 rfl
        have d2 := HV2.out.cell 2 rfl
        have d3 := HV2.out.cell 3 rfl
        have d4 := HV2.out.cell 4 rfl
        have d5 := HV2.out.cell 5 rfl
        have d6 := HV2.out.cell 6 rfl
        go_wp2_with (at_builtin; go_must (refine wp_two_near V2 _ rfl rfl _ _ rfl w1.heap.size u2 u3 A G rfl HL2.out.1 (stepN x) rfl (by have := HLN.out.1; omega) HL2.out.2.size ?_))
        intro v' w' ht hb
        have HT9 : Hid (Two2 w' w1.heap.size v' (fadeN (O.take (i + 1))) u3 (fadeG (O.take (i + 1)))) := by
          rw [HST.1, HST.2]; exact ht
        have HB9 : Hid (Below w1.heap.size w1 w') := below_more HL2.out.2 hb (Nat.le_refl _)
        clear ht hb HST HL2 HV2 d0 d1 d2 d3 d4 d5 d6 HSS HGG
        go_wp2
        go_roundg (m - (i + 1))
        case measure => omega
        case rel => exact ⟨i + 1, by go_num, by omega, Nat.le_refl _, HT9, HB9⟩
    · have hltz : ¬ (i : Int) < (m : Int) := by omega
      have HE : Hid (Two2 wr w1.heap.size u2 (fadeN O) u3 (fadeG O)) := by
        have h1 := HT.out
        rw [List.take_of_length_le (by rw [HM.out]; omega)] at h1
        exact h1
      clear HT
      go_wp2
      go_ret2
      exact ⟨u2, u3, rfl, ⟨HE.out.1.base HW1.out, HE.out.2.1.base HW1.out, HE.out.2.2⟩, HB1.out.trans (HB.out.mono HW1.out)⟩
end Go.Proofs.Ytgljblnegiadlaa
