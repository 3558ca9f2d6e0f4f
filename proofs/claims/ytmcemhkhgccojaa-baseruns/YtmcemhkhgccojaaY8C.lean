/- Contracts of the sums modulo 255 and of the pair: the program's and the document's. -/
import Derived.Test.YtmcemhkhgccojaaY8A
import Derived.Test.YtmcemhkhgccojaaS5W7
namespace Go.Proofs.Ytmcemhkhgccojaa
open Go.RowKit

theorem take_one (zs : List Int) (k : Nat) (h : k < zs.length) : zs.take (k + 1) = zs.take k ++ [zs.getD k 0] := by
  rw [List.take_succ_eq_append_getElem h, List.getD_eq_getElem?_getD, List.getElem?_eq_getElem h]; rfl
theorem cZ_take (zs : List Int) (k : Nat) (h : k < zs.length) : cZ (zs.take (k + 1)) = (cZ (zs.take k) + zs.getD k 0) % 255 := by rw [take_one zs k h, cZ_snoc]
theorem dZ_take (zs : List Int) (k : Nat) (h : k < zs.length) : dZ (zs.take (k + 1)) = (dZ (zs.take k) + (cZ (zs.take k) + zs.getD k 0) % 255) % 255 := by rw [take_one zs k h, dZ_snoc, cZ_snoc]

set_option maxHeartbeats 400000 in
theorem sums_any (a : Option Addr) (cap : Nat) (zs : List Int) (w : World) (hB : Bts w a zs) (hz : AreBytes zs) (hl : zs.length ≤ 140737488355328) :
    Calls Try.prog 90 #[.slice a zs.length cap] w fun e w' => e = .returned (.tuple #[.int .i64 (cZ zs), .int .i64 (dZ zs)]) ∧ w' = w := by
  go_enter Try.func90, Try.ntmps90
  go_wp2
  go_loop [2, 3, 8] (fun c d i => ∃ k : Nat, k ≤ zs.length ∧ i = .int .i64 k ∧ c = .int .i64 (cZ (zs.take k)) ∧ d = .int .i64 (dZ (zs.take k))) (fun _ _ i => zs.length - (intOf i).toNat)
  case atStart => exact ⟨0, by omega, rfl, by simp [cZ, sumZ], by simp [dZ, wsumZ]⟩
  case round =>
    obtain ⟨k, hk, rfl, rfl, rfl⟩ := hrel
    have bc := cZ_bd (zs.take k)
    have bd := dZ_bd (zs.take k)
    by_cases hlt : k < zs.length
    · obtain ⟨b, off, rfl, hcl⟩ := hB.resolve_left (by rintro rfl; simp at hlt)
      have c0 := hcl k hlt
      have d0 := areBytes_getD hz k
      have TC : Hid (_ = _) := cZ_take zs k hlt
      have TD : Hid (_ = _) := dZ_take zs k hlt
      generalize zs.getD k 0 = x0 at *
      generalize hc : cZ (zs.take k) = c at *
      generalize hd : dZ (zs.take k) = d at *
      clear hcl hc hd
      go_wp2
      go_round
      case rel => exact ⟨k + 1, by omega, by go_num, by rw [TC.out], by rw [TD.out]⟩
      case measure => simp [intOf]; omega
    · have e : zs.take k = zs := List.take_of_length_le (by omega)
      rw [e]
      clear e bc bd
      go_wp2
      go_ret2
      exact ⟨rfl, rfl⟩

theorem nz_go (n : Int) : (if n.tmod 255 ≤ 0 then n.tmod 255 + 255 else n.tmod 255) = nzZ n := by
  unfold nzZ
  rcases Int.le_total 0 n with h | h
  · rw [Int.tmod_eq_emod_of_nonneg h]; split <;> omega
  · have e := Int.neg_tmod n 255
    have e1 : n.tmod 255 = - ((-n).tmod 255) := by omega
    rw [e1, Int.tmod_eq_emod_of_nonneg (show 0 ≤ -n by omega)]; split <;> omega
theorem tmod_bd (n : Int) : -255 < n.tmod 255 ∧ n.tmod 255 < 255 := by
  rcases Int.le_total 0 n with h | h
  · rw [Int.tmod_eq_emod_of_nonneg h]; omega
  · have e := Int.neg_tmod n 255
    have e1 : n.tmod 255 = - ((-n).tmod 255) := by omega
    rw [e1, Int.tmod_eq_emod_of_nonneg (show 0 ≤ -n by omega)]; omega
set_option maxHeartbeats 400000 in
theorem nonzero_any (n : Int) (w : World) :
    Calls Try.prog 91 #[.int .i64 n] w fun e w' => e = .returned (.int .i64 (nzZ n)) ∧ w' = w := by
  have b := tmod_bd n
  have E : Hid (_ = _) := nz_go n
  by_cases h : n.tmod 255 ≤ 0
  · rw [if_pos h] at E
    go_enter Try.func91, Try.ntmps91
    go_wp2
    go_ret
    exact ⟨ret_int E.out, rfl⟩
  · rw [if_neg h] at E
    go_enter Try.func91, Try.ntmps91
    go_wp2
    go_ret
    exact ⟨ret_int E.out, rfl⟩

theorem good_yes {zs : List Int} (h : cZ zs = 0) : (dZ zs == 0) = goodB zs := by unfold goodB; rw [Bool.eq_iff_iff]; simp [h]
theorem good_no {zs : List Int} (h : ¬ cZ zs = 0) : false = goodB zs := by unfold goodB; simp [h]
/-- What the document's sums count: noughts at two places. -/
def HoleIs (zs hs : List Int) (n : Int) : Prop := hs.length = zs.length ∧ ∀ i : Nat, i < zs.length → hs.getD i 0 = if (i : Int) = n ∨ (i : Int) = n + 1 then 0 else zs.getD i 0
theorem hole_none (zs : List Int) : HoleIs zs zs (-5) := ⟨rfl, fun i _ => by rw [if_neg (by omega)]⟩
theorem hole_at (zs : List Int) (k : Nat) : HoleIs zs (holeZ zs k) (k : Int) := by
  refine ⟨by simp [holeZ], fun i hi => ?_⟩
  unfold holeZ
  rw [List.getD_eq_getElem?_getD, List.getElem?_eq_getElem (by simpa using hi)]
  simp only [List.getElem_set, Option.getD_some]
  by_cases a : k + 1 = i
  · rw [if_pos a, if_pos (by omega)]
  · rw [if_neg a]
    by_cases b : k = i
    · rw [if_pos b, if_pos (by omega)]
    · rw [if_neg b, if_neg (by omega), List.getD_eq_getElem?_getD, List.getElem?_eq_getElem hi]; rfl
theorem cZ_take0 (zs : List Int) (k : Nat) (h : k < zs.length) (h0 : zs.getD k 0 = 0) : cZ (zs.take (k + 1)) = cZ (zs.take k) := by
  have := cZ_bd (zs.take k)
  rw [cZ_take zs k h, h0]; omega
theorem dZ_take0 (zs : List Int) (k : Nat) (h : k < zs.length) (h0 : zs.getD k 0 = 0) : dZ (zs.take (k + 1)) = (dZ (zs.take k) + cZ (zs.take k)) % 255 := by
  have := cZ_bd (zs.take k)
  rw [dZ_take zs k h, h0]; omega

set_option maxHeartbeats 800000 in
theorem rsums_any (a : Option Addr) (cap : Nat) (zs hs : List Int) (n : Int) (w : World) (hB : Bts w a zs) (hz : AreBytes zs) (hl : zs.length ≤ 140737488355328) (hh : HoleIs zs hs n) (n0 : -5 ≤ n) (n1 : n ≤ zs.length) :
    Calls Try.prog 63 #[.slice a zs.length cap, .int .i64 n] w fun e w' => e = .returned (.tuple #[.int .i64 (cZ hs), .int .i64 (dZ hs)]) ∧ w' = w := by
  obtain ⟨hlen, hcase⟩ := hh
  have HL : Hid (hs.length = zs.length) := hlen
  have HC : Hid (∀ i : Nat, i < zs.length → hs.getD i 0 = if (i : Int) = n ∨ (i : Int) = n + 1 then 0 else zs.getD i 0) := hcase
  clear hlen hcase
  go_enter Try.func63, Try.ntmps63
  go_wp2
  go_loop [6, 7, 8] (fun c d i => ∃ k : Nat, k ≤ zs.length ∧ i = .int .i64 k ∧ c = .int .i64 (cZ (hs.take k)) ∧ d = .int .i64 (dZ (hs.take k))) (fun _ _ i => zs.length - (intOf i).toNat)
  case atStart => exact ⟨0, by omega, rfl, by simp [cZ, sumZ], by simp [dZ, wsumZ]⟩
  case round =>
    obtain ⟨k, hk, rfl, rfl, rfl⟩ := hrel
    have bc := cZ_bd (hs.take k)
    have bd := dZ_bd (hs.take k)
    by_cases hlt : k < zs.length
    · by_cases hat : (k : Int) = n ∨ (k : Int) = n + 1
      · have g0 : hs.getD k 0 = 0 := by rw [HC.out k hlt, if_pos hat]
        have TC : Hid (_ = _) := cZ_take0 hs k (by rw [HL.out]; exact hlt) g0
        have TD : Hid (_ = _) := dZ_take0 hs k (by rw [HL.out]; exact hlt) g0
        generalize hc : cZ (hs.take k) = c at *
        generalize hd : dZ (hs.take k) = d at *
        clear hc hd g0
        rcases hat with hat | hat
        · have t1 : ((k : Int) != n) = false := by simp [hat]
          subst hat
          go_wp2
          go_round
          case rel => exact ⟨k + 1, by omega, by go_num, by rw [TC.out], by rw [TD.out]⟩
          case measure => simp [intOf]; omega
        · have t1 : ((k : Int) != n) = true := by simp; omega
          have t2 : ((k : Int) != n + 1) = false := by simp [hat]
          have HA : Hid ((k : Int) = n + 1) := hat
          clear hat
          go_wp2
          go_round
          case rel => exact ⟨k + 1, by omega, by go_num, by rw [TC.out], by rw [TD.out]⟩
          case measure => simp [intOf]; omega
      · have g0 : hs.getD k 0 = zs.getD k 0 := by rw [HC.out k hlt, if_neg hat]
        have TC : Hid (_ = _) := cZ_take hs k (by rw [HL.out]; exact hlt)
        have TD : Hid (_ = _) := dZ_take hs k (by rw [HL.out]; exact hlt)
        rw [g0] at TC TD
        have t1 : ((k : Int) != n) = true := by simp; omega
        have t2 : ((k : Int) != n + 1) = true := by simp; omega
        obtain ⟨b, off, rfl, hcl⟩ := hB.resolve_left (by rintro rfl; simp at hlt)
        have c0 := hcl k hlt
        have d0 := areBytes_getD hz k
        clear g0 hcl hat
        generalize zs.getD k 0 = x0 at *
        generalize hc : cZ (hs.take k) = c at *
        generalize hd : dZ (hs.take k) = d at *
        clear hc hd
        go_wp2
        go_round
        case rel => exact ⟨k + 1, by omega, by go_num, by rw [TC.out], by rw [TD.out]⟩
        case measure => simp [intOf]; omega
    · have e : hs.take k = hs := List.take_of_length_le (by rw [HL.out]; omega)
      rw [e]
      clear e bc bd
      go_wp2
      go_ret2
      exact ⟨rfl, rfl⟩

theorem mul_bd (r c : Int) (h0 : 0 ≤ r) (h1 : r ≤ 140737488355328) (c0 : 0 ≤ c) (c1 : c ≤ 254) : 0 ≤ r * c ∧ r * c ≤ 35747322042253312 := by
  refine ⟨Int.mul_nonneg h0 c0, ?_⟩
  have : r * c ≤ r * 254 := Int.mul_le_mul_of_nonneg_left c1 h0
  omega
set_option maxHeartbeats 800000 in
theorem pair_any (a : Option Addr) (cap : Nat) (zs : List Int) (n : Int) (w : World) (hB : Bts w a zs) (hz : AreBytes zs) (hl : zs.length ≤ 140737488355328) :
    Calls Try.prog 80 #[.slice a zs.length cap, .int .i64 n] w fun e w' => e = .returned (.int .i64 (pairAt zs n)) ∧ w' = w := by
  by_cases h0 : n < 0
  · have E : Hid (pairAt zs n = 0) := by show _ = _; unfold pairAt; rw [if_neg (by omega)]
    go_enter Try.func80, Try.ntmps80
    go_wp2
    go_ret
    exact ⟨ret_int E.out.symm, rfl⟩
  · by_cases h1 : (zs.length : Int) - 2 < n
    · have E : Hid (pairAt zs n = 0) := by show _ = _; unfold pairAt; rw [if_neg (by omega)]
      go_enter Try.func80, Try.ntmps80
      go_wp2
      go_ret
      exact ⟨ret_int E.out.symm, rfl⟩
    · obtain ⟨k, rfl⟩ := Int.eq_ofNat_of_zero_le (show 0 ≤ n by omega)
      have hk : k + 1 < zs.length := by omega
      have E : Hid (pairAt zs (k : Int) = 256 * fstZ zs k + sndZ zs k) := by show _ = _; unfold pairAt pairZ; rw [if_pos (by omega)]; simp
      have F1 : Hid (_ = _) := fst_prog zs k hk
      have F2 : Hid (_ = _) := snd_prog zs k hk
      have S := (sums_any a cap zs w hB hz hl)
      obtain ⟨b, off, rfl, hcl⟩ := hB.resolve_left (by rintro rfl; simp at hk)
      have c0 := hcl k (by omega)
      have c1 := hcl (k + 1) hk
      have d0 := areBytes_getD hz k
      have d1 := areBytes_getD hz (k + 1)
      have bc := cZ_bd zs
      have bd := dZ_bd zs
      have m1 := mul_bd ((zs.length : Int) - k - 1) (cZ zs) (by omega) (by omega) bc.1 bc.2
      have m2 := mul_bd ((zs.length : Int) - k) (cZ zs) (by omega) (by omega) bc.1 bc.2
      have x1 : 1 ≤ fstZ zs k ∧ fstZ zs k ≤ 255 := nzZ_bd _
      have x2 : 1 ≤ sndZ zs k ∧ sndZ zs k ≤ 255 := nzZ_bd _
      generalize fstZ zs k = X at *
      generalize sndZ zs k = Y at *
      generalize zs.getD k 0 = z0 at *
      generalize zs.getD (k + 1) 0 = z1 at *
      generalize cZ zs = C at *
      generalize dZ zs = D at *
      clear hcl hz
      go_enter Try.func80, Try.ntmps80
      go_wp2_with (first | (go_at_call 90; refine S.mono ?_; rintro e w' ⟨rfl, rfl⟩) | (go_at_call 91; refine (nonzero_any _ _).mono ?_; rintro e w' ⟨rfl, rfl⟩; first | rw [F1.out] | rw [F2.out]))
      go_ret
      exact ⟨ret_int (by rw [E.out]; omega), rfl⟩

theorem fst_doc (zs : List Int) (k : Nat) : fstZ zs k = (((zs.length : Int) - k - 1) % 255 * cZ (holeZ zs k) - dZ (holeZ zs k) + 255 - 1) % 255 + 1 :=
  (fst_ref ((zs.length : Int) - k - 1) _ _ _ _ _ rfl rfl rfl).symm
theorem snd_doc (zs : List Int) (k : Nat) : sndZ zs k = (510 - cZ (holeZ zs k) - fstZ zs k - 1) % 255 + 1 := by
  have h := snd_ref ((zs.length : Int) - k) (cZ (holeZ zs k)) (sumZ (holeZ zs k)) (wsumZ (holeZ zs k)) (fstZ zs k) rfl (nzZ_mod _)
  unfold sndZ; rw [← h]; rfl

set_option maxHeartbeats 800000 in
theorem rpair_any (a : Option Addr) (cap : Nat) (zs : List Int) (n : Int) (w : World) (hB : Bts w a zs) (hz : AreBytes zs) (hl : zs.length ≤ 140737488355328) :
    Calls Try.prog 44 #[.slice a zs.length cap, .int .i64 n] w fun e w' => e = .returned (.int .i64 (pairAt zs n)) ∧ w' = w := by
  by_cases h0 : n < 0
  · have E : Hid (pairAt zs n = 0) := by show _ = _; unfold pairAt; rw [if_neg (by omega)]
    go_enter Try.func44, Try.ntmps44
    go_wp2
    go_ret
    exact ⟨ret_int E.out.symm, rfl⟩
  · by_cases h1 : (zs.length : Int) - 2 < n
    · have E : Hid (pairAt zs n = 0) := by show _ = _; unfold pairAt; rw [if_neg (by omega)]
      go_enter Try.func44, Try.ntmps44
      go_wp2
      go_ret
      exact ⟨ret_int E.out.symm, rfl⟩
    · obtain ⟨k, rfl⟩ := Int.eq_ofNat_of_zero_le (show 0 ≤ n by omega)
      have hk : k + 1 < zs.length := by omega
      have E : Hid (pairAt zs (k : Int) = 256 * fstZ zs k + sndZ zs k) := by show _ = _; unfold pairAt pairZ; rw [if_pos (by omega)]; simp
      have F1 : Hid (_ = _) := fst_doc zs k
      have F2 : Hid (_ = _) := snd_doc zs k
      have S := (rsums_any a cap zs (holeZ zs k) k w hB hz hl (hole_at zs k) (by omega) (by omega))
      have bc := cZ_bd (holeZ zs k)
      have bd := dZ_bd (holeZ zs k)
      have m1 := mul_bd (((zs.length : Int) - k - 1) % 255) (cZ (holeZ zs k)) (by omega) (by omega) bc.1 bc.2
      generalize fstZ zs k = X at *
      generalize sndZ zs k = Y at *
      generalize cZ (holeZ zs k) = C at *
      generalize dZ (holeZ zs k) = D at *
      clear hz hB
      go_enter Try.func44, Try.ntmps44
      go_wp2_with (go_at_call 63; refine S.mono ?_; rintro e w' ⟨rfl, rfl⟩)
      all_goals go_ret
      all_goals refine ⟨ret_int ?_, rfl⟩
      all_goals (have e0 := E.out; have e1 := F1.out; have e2 := F2.out; generalize ((zs.length : Int) - k - 1) % 255 * C = M at *)
      all_goals first | omega | (simp at *; omega)

end Go.Proofs.Ytmcemhkhgccojaa
/- All the bytes of an advertisement; its seal. -/
namespace Go.Proofs.Ytmcemhkhgccojaa
open Go.RowKit

theorem Box.conj {x : World} {b : Nat} {s : Seats} {l : LsaZ} (h : Box x b s l) : x.cell? ⟨b, 0, none⟩ = some (.int .i64 l.head.age) ∧ x.cell? ⟨b, 1, none⟩ = some (.int .i64 l.head.kind) ∧ x.cell? ⟨b, 2, none⟩ = some (.int .i64 l.head.id) ∧ x.cell? ⟨b, 3, none⟩ = some (.int .i64 l.head.adv) ∧ x.cell? ⟨b, 4, none⟩ = some (.int .i64 l.head.seq) ∧ x.cell? ⟨b, 5, none⟩ = some (.int .i64 l.head.sum) ∧ x.cell? ⟨b, 6, none⟩ = some (.int .i64 l.head.len) ∧ x.cell? ⟨b, 7, none⟩ = some (.int .i64 l.flags) ∧ x.cell? ⟨b, 8, none⟩ = some (.slice s.la l.links.length s.lc) ∧ x.cell? ⟨b, 9, none⟩ = some (.int .i64 l.bits) ∧ x.cell? ⟨b, 10, none⟩ = some (.slice s.ra l.routers.length s.rc) ∧ x.cell? ⟨b, 11, none⟩ = some (.slice s.va l.verts.length s.vc) := by
  obtain ⟨c0, c1, c2, c3, c4, c5, c6, c7, c8, c9, c10, c11⟩ := h
  exact ⟨c0, c1, c2, c3, c4, c5, c6, c7, c8, c9, c10, c11⟩
theorem box_of {x : World} {b : Nat} {s : Seats} {l : LsaZ} (h : x.cell? ⟨b, 0, none⟩ = some (.int .i64 l.head.age) ∧ x.cell? ⟨b, 1, none⟩ = some (.int .i64 l.head.kind) ∧ x.cell? ⟨b, 2, none⟩ = some (.int .i64 l.head.id) ∧ x.cell? ⟨b, 3, none⟩ = some (.int .i64 l.head.adv) ∧ x.cell? ⟨b, 4, none⟩ = some (.int .i64 l.head.seq) ∧ x.cell? ⟨b, 5, none⟩ = some (.int .i64 l.head.sum) ∧ x.cell? ⟨b, 6, none⟩ = some (.int .i64 l.head.len) ∧ x.cell? ⟨b, 7, none⟩ = some (.int .i64 l.flags) ∧ x.cell? ⟨b, 8, none⟩ = some (.slice s.la l.links.length s.lc) ∧ x.cell? ⟨b, 9, none⟩ = some (.int .i64 l.bits) ∧ x.cell? ⟨b, 10, none⟩ = some (.slice s.ra l.routers.length s.rc) ∧ x.cell? ⟨b, 11, none⟩ = some (.slice s.va l.verts.length s.vc)) : Box x b s l := by
  obtain ⟨c0, c1, c2, c3, c4, c5, c6, c7, c8, c9, c10, c11⟩ := h
  exact ⟨c0, c1, c2, c3, c4, c5, c6, c7, c8, c9, c10, c11⟩
theorem keep_box {x x' : World} {b N : Nat} {s : Seats} {l : LsaZ} (h : x.cell? ⟨b, 0, none⟩ = some (.int .i64 l.head.age) ∧ x.cell? ⟨b, 1, none⟩ = some (.int .i64 l.head.kind) ∧ x.cell? ⟨b, 2, none⟩ = some (.int .i64 l.head.id) ∧ x.cell? ⟨b, 3, none⟩ = some (.int .i64 l.head.adv) ∧ x.cell? ⟨b, 4, none⟩ = some (.int .i64 l.head.seq) ∧ x.cell? ⟨b, 5, none⟩ = some (.int .i64 l.head.sum) ∧ x.cell? ⟨b, 6, none⟩ = some (.int .i64 l.head.len) ∧ x.cell? ⟨b, 7, none⟩ = some (.int .i64 l.flags) ∧ x.cell? ⟨b, 8, none⟩ = some (.slice s.la l.links.length s.lc) ∧ x.cell? ⟨b, 9, none⟩ = some (.int .i64 l.bits) ∧ x.cell? ⟨b, 10, none⟩ = some (.slice s.ra l.routers.length s.rc) ∧ x.cell? ⟨b, 11, none⟩ = some (.slice s.va l.verts.length s.vc)) (hb : Below N x x') (hN : b < N) : x'.cell? ⟨b, 0, none⟩ = some (.int .i64 l.head.age) ∧ x'.cell? ⟨b, 1, none⟩ = some (.int .i64 l.head.kind) ∧ x'.cell? ⟨b, 2, none⟩ = some (.int .i64 l.head.id) ∧ x'.cell? ⟨b, 3, none⟩ = some (.int .i64 l.head.adv) ∧ x'.cell? ⟨b, 4, none⟩ = some (.int .i64 l.head.seq) ∧ x'.cell? ⟨b, 5, none⟩ = some (.int .i64 l.head.sum) ∧ x'.cell? ⟨b, 6, none⟩ = some (.int .i64 l.head.len) ∧ x'.cell? ⟨b, 7, none⟩ = some (.int .i64 l.flags) ∧ x'.cell? ⟨b, 8, none⟩ = some (.slice s.la l.links.length s.lc) ∧ x'.cell? ⟨b, 9, none⟩ = some (.int .i64 l.bits) ∧ x'.cell? ⟨b, 10, none⟩ = some (.slice s.ra l.routers.length s.rc) ∧ x'.cell? ⟨b, 11, none⟩ = some (.slice s.va l.verts.length s.vc) :=
  ((box_of h).below hb hN).conj
theorem lay_fits {l : LsaZ} (h : Mid l) : (layZ l).length ≤ 13000000 := by
  unfold layZ
  rw [List.length_append, headZ_length, bodyZ_length]
  have := h.hl; have := h.hr; have := h.hv
  split
  · omega
  · split
    · omega
    · split <;> omega
set_option maxHeartbeats 1600000 in
theorem lay_any (s : Seats) (l : LsaZ) (w : World) (hH : Held w s l) (hf : Mid l) :
    Calls Try.prog 79 #[.agg (lsaA s l)] w fun e w' => ∃ g cp, e = .returned (.slice (some ⟨g, 0, none⟩) (layZ l).length cp) ∧ Owns w' w.heap.size g cp (layZ l) ∧ Below w.heap.size w w' := by
  have HH : Hid (Held w s l) := hH
  have HF : Hid (Mid l) := hf
  have hX := (box_new w s l).conj
  have hlt : w.heap.size < (w.alloc (.cells (lsaA s l) 39)).drew.heap.size := by simp
  have HB : Hid (Below w.heap.size w (w.alloc (.cells (lsaA s l) 39)).drew) := (below_new' _ _).drew
  clear hH hf
  obtain ⟨c0, c1, c2, c3, c4, c5, c6, c7, c8, c9, c10, c11⟩ := hX
  go_enter Try.func79, Try.ntmps79
  go_upto_region 1 with fail
  generalize w.alloc (.cells (lsaA s l) 39) = W at *
  go_region_held3 (fun x => x.cell? ⟨w.heap.size, 0, none⟩ = some (.int .i64 l.head.age) ∧ x.cell? ⟨w.heap.size, 1, none⟩ = some (.int .i64 l.head.kind) ∧ x.cell? ⟨w.heap.size, 2, none⟩ = some (.int .i64 l.head.id) ∧ x.cell? ⟨w.heap.size, 3, none⟩ = some (.int .i64 l.head.adv) ∧ x.cell? ⟨w.heap.size, 4, none⟩ = some (.int .i64 l.head.seq) ∧ x.cell? ⟨w.heap.size, 5, none⟩ = some (.int .i64 l.head.sum) ∧ x.cell? ⟨w.heap.size, 6, none⟩ = some (.int .i64 l.head.len) ∧ x.cell? ⟨w.heap.size, 7, none⟩ = some (.int .i64 l.flags) ∧ x.cell? ⟨w.heap.size, 8, none⟩ = some (.slice s.la l.links.length s.lc) ∧ x.cell? ⟨w.heap.size, 9, none⟩ = some (.int .i64 l.bits) ∧ x.cell? ⟨w.heap.size, 10, none⟩ = some (.slice s.ra l.routers.length s.rc) ∧ x.cell? ⟨w.heap.size, 11, none⟩ = some (.slice s.va l.verts.length s.vc)) (first | exact keep_box (by assumption) hk2 hlt | exact keep_box (by assumption) hk hlt | go_keep)
    (first | (go_at_call 89; refine (putHead_any l.head _).mono ?_; rintro e w1 ⟨g1, cp1, rfl, ho, hk⟩) | (go_at_call 88; refine (appendBody_any s l _ _ _ _ (headZ l.head) W.drew _ ho rfl (by simp [headZ_length]) (HH.out.below HB.out) hk (Nat.le_refl _) HF.out).mono ?_; rintro e w2 ⟨g2, cp2, rfl, ho2, hk2⟩))
  rename_i hH
  have HR : Hid (Owns w2 w.heap.size g2 cp2 (layZ l) ∧ Below w.heap.size w w2) := ⟨ho2.base (Nat.le_of_lt hlt), below_more HB.out (hk.trans hk2) (Nat.le_of_lt hlt)⟩
  clear ho hk ho2 hk2 hH hlt c0 c1 c2 c3 c4 c5 c6 c7 c8 c9 c10 c11
  go_wp2
  go_ret
  exact ⟨_, _, ret_slice (by unfold layZ; rw [List.length_append]), HR.out⟩
end Go.Proofs.Ytmcemhkhgccojaa
