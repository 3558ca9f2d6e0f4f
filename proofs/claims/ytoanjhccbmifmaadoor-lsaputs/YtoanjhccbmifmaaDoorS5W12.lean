/- What keeps an advertisement from being put; Put. -/
import Derived.Test.YtoanjhccbmifmaaDoorS5W11
namespace Go.Proofs.YtoanjhccbmifmaaDoor
open Go.RowKit

def sealedB (l : LsaZ) : Bool := rightLsaB l && (((sealH l).sum == l.head.sum) && ((sealH l).len == l.head.len))
set_option maxHeartbeats 800000 in
theorem check_right (s : Seats) (l : LsaZ) {p : Nat → Addr} (w : World) (hE : EnvAt w p) (hH : Held w s l) (hf : Fits l) (hr : rightLsaB l = false) :
    Calls Tryd.prog 29 #[.agg (lsaA s l)] w fun e w' => (∃ t, e = .returned (faultV t (p 0))) ∧ Below w.heap.size w w' ∧ EnvAt w' p := by
  have HE : Hid (EnvAt w p) := hE
  have HH : Hid (Held w s l) := hH
  have HF : Hid (Fits l) := hf
  clear hE hH hf
  go_enter Tryd.func29, Tryd.ntmps29
  go_wp2_with fail
  refine (rightLsa_any s l _ (HH.out.below (below_new' _ _)) HF.out).mono ?_
  rintro e w1 ⟨rfl, hb⟩
  rw [hr]
  have HB : Hid (Below w.heap.size w w1) := below_more (below_new' _ _) hb (by simp)
  have HE1 : Hid (EnvAt w1 p) := HE.out.below HB.out (Nat.le_refl _)
  have v := HE1.out.var 0 (by decide)
  clear hb hr
  go_wp2_with fail
  refine (wrap_any _ _ _ _).mono ?_
  rintro e w2 ⟨rfl, hq⟩
  subst w2
  go_wp2
  go_ret
  exact ⟨⟨_, rfl⟩, HB.out, HE1.out⟩
theorem sealH_age (l : LsaZ) : (sealH l).age = l.head.age := by unfold sealH; with_reducible rfl
theorem sealH_kind (l : LsaZ) : (sealH l).kind = l.head.kind := by unfold sealH; with_reducible rfl
theorem sealH_id (l : LsaZ) : (sealH l).id = l.head.id := by unfold sealH; with_reducible rfl
theorem sealH_adv (l : LsaZ) : (sealH l).adv = l.head.adv := by unfold sealH; with_reducible rfl
theorem sealH_seq (l : LsaZ) : (sealH l).seq = l.head.seq := by unfold sealH; with_reducible rfl
theorem seal_shape (l : LsaZ) : headA (sealH l) = #[.int .i64 l.head.age, .int .i64 l.head.kind, .int .i64 l.head.id, .int .i64 l.head.adv, .int .i64 l.head.seq, .int .i64 (sealH l).sum, .int .i64 (sealH l).len] := by
  simp only [headA, sealH_age, sealH_kind, sealH_id, sealH_adv, sealH_seq]
/-- What check tells of one that is right: nothing, where the seal is. -/
def CheckEnd (b : Bool) (p : Nat → Addr) (e : Ending) : Prop := match b with
  | true => e = .returned .nilIface
  | false => ∃ t, e = .returned (faultV t (p 0))
set_option maxHeartbeats 3200000 in
theorem check_seal (s : Seats) (l : LsaZ) {p : Nat → Addr} (w : World) (hE : EnvAt w p) (hH : Held w s l) (hf : Mid l) (hr : rightLsaB l = true) :
    Calls Tryd.prog 29 #[.agg (lsaA s l)] w fun e w' => CheckEnd (((sealH l).sum == l.head.sum) && ((sealH l).len == l.head.len)) p e ∧ Below w.heap.size w w' ∧ EnvAt w' p := by
  obtain ⟨B, hB⟩ : ∃ B, ((((sealH l).sum == l.head.sum) && ((sealH l).len == l.head.len))) = B := ⟨_, rfl⟩
  have HQ : Hid (_ = B) := hB
  rw [hB]
  clear hB
  have HE : Hid (EnvAt w p) := hE
  have HH : Hid (Held w s l) := hH
  have HF : Hid (Mid l) := hf
  have HX : Hid (Box _ w.heap.size s l) := box_new w s l
  have hsl := fun W hW => sealed_any s l W hW hf
  rw [seal_shape] at hsl
  clear hE hH hf
  go_enter Tryd.func29, Tryd.ntmps29
  go_wp2_with fail
  refine (rightLsa_any s l _ (HH.out.below (below_new' _ _)) HF.out.fits).mono ?_
  rintro e w1 ⟨rfl, hb⟩
  rw [hr]
  have HB : Hid (Below w.heap.size w w1) := below_more (below_new' _ _) hb (by simp)
  have hX := (HX.out.below hb HX.out.lt).conj
  have hlt : w.heap.size < w1.drew.heap.size := (box_of hX).lt
  have hBd : Below w.heap.size w w1.drew := HB.out.drew
  clear hb hr HX HB
  obtain ⟨c0, c1, c2, c3, c4, c5, c6, c7, c8, c9, c10, c11⟩ := hX
  generalize (sealH l).sum = S at *
  generalize (sealH l).len = N at *
  go_wp2_with fail
  cases h1 : (S == l.head.sum) with
  | false =>
    cases h2 : (N == l.head.len) with
    | false =>
      have hBv : B = false := by rw [← HQ.out, h1, h2]; rfl
      subst hBv
      go_region_held3 (fun x => x.cell? ⟨w.heap.size, 0, none⟩ = some (.int .i64 l.head.age) ∧ x.cell? ⟨w.heap.size, 1, none⟩ = some (.int .i64 l.head.kind) ∧ x.cell? ⟨w.heap.size, 2, none⟩ = some (.int .i64 l.head.id) ∧ x.cell? ⟨w.heap.size, 3, none⟩ = some (.int .i64 l.head.adv) ∧ x.cell? ⟨w.heap.size, 4, none⟩ = some (.int .i64 l.head.seq) ∧ x.cell? ⟨w.heap.size, 5, none⟩ = some (.int .i64 l.head.sum) ∧ x.cell? ⟨w.heap.size, 6, none⟩ = some (.int .i64 l.head.len) ∧ x.cell? ⟨w.heap.size, 7, none⟩ = some (.int .i64 l.flags) ∧ x.cell? ⟨w.heap.size, 8, none⟩ = some (.slice s.la l.links.length s.lc) ∧ x.cell? ⟨w.heap.size, 9, none⟩ = some (.int .i64 l.bits) ∧ x.cell? ⟨w.heap.size, 10, none⟩ = some (.slice s.ra l.routers.length s.rc) ∧ x.cell? ⟨w.heap.size, 11, none⟩ = some (.slice s.va l.verts.length s.vc)) (first | exact keep_box (by assumption) hk hlt | go_keep)
        (first | (go_at_call 34; refine (hsl _ (HH.out.below hBd)).mono ?_; rintro e w2 ⟨rfl, hk⟩) | fail)
      rename_i hS
      have HB2 : Hid (Below w.heap.size w w2) := below_more hBd hk (Nat.le_of_lt hlt)
      have HE2 : Hid (EnvAt w2 p) := HE.out.below HB2.out (Nat.le_refl _)
      have v := HE2.out.var 0 (by decide)
      clear hS hk hsl hlt hBd c0 c1 c2 c3 c4 c5 c6 c7 c8 c9 c10 c11
      go_wp2_with fail
      refine (wrap_any _ _ _ _).mono ?_
      rintro e w3 ⟨rfl, hq⟩
      subst w3
      go_wp2
      go_ret
      exact ⟨⟨_, rfl⟩, HB2.out, HE2.out⟩
    | true =>
      have hBv : B = false := by rw [← HQ.out, h1, h2]; rfl
      subst hBv
      go_region_held3 (fun x => x.cell? ⟨w.heap.size, 0, none⟩ = some (.int .i64 l.head.age) ∧ x.cell? ⟨w.heap.size, 1, none⟩ = some (.int .i64 l.head.kind) ∧ x.cell? ⟨w.heap.size, 2, none⟩ = some (.int .i64 l.head.id) ∧ x.cell? ⟨w.heap.size, 3, none⟩ = some (.int .i64 l.head.adv) ∧ x.cell? ⟨w.heap.size, 4, none⟩ = some (.int .i64 l.head.seq) ∧ x.cell? ⟨w.heap.size, 5, none⟩ = some (.int .i64 l.head.sum) ∧ x.cell? ⟨w.heap.size, 6, none⟩ = some (.int .i64 l.head.len) ∧ x.cell? ⟨w.heap.size, 7, none⟩ = some (.int .i64 l.flags) ∧ x.cell? ⟨w.heap.size, 8, none⟩ = some (.slice s.la l.links.length s.lc) ∧ x.cell? ⟨w.heap.size, 9, none⟩ = some (.int .i64 l.bits) ∧ x.cell? ⟨w.heap.size, 10, none⟩ = some (.slice s.ra l.routers.length s.rc) ∧ x.cell? ⟨w.heap.size, 11, none⟩ = some (.slice s.va l.verts.length s.vc)) (first | exact keep_box (by assumption) hk hlt | go_keep)
        (first | (go_at_call 34; refine (hsl _ (HH.out.below hBd)).mono ?_; rintro e w2 ⟨rfl, hk⟩) | fail)
      rename_i hS
      have HB2 : Hid (Below w.heap.size w w2) := below_more hBd hk (Nat.le_of_lt hlt)
      have HE2 : Hid (EnvAt w2 p) := HE.out.below HB2.out (Nat.le_refl _)
      have v := HE2.out.var 0 (by decide)
      clear hS hk hsl hlt hBd c0 c1 c2 c3 c4 c5 c6 c7 c8 c9 c10 c11
      go_wp2_with fail
      refine (wrap_any _ _ _ _).mono ?_
      rintro e w3 ⟨rfl, hq⟩
      subst w3
      go_wp2
      go_ret
      exact ⟨⟨_, rfl⟩, HB2.out, HE2.out⟩
  | true =>
    cases h2 : (N == l.head.len) with
    | false =>
      have hBv : B = false := by rw [← HQ.out, h1, h2]; rfl
      subst hBv
      go_region_held3 (fun x => x.cell? ⟨w.heap.size, 0, none⟩ = some (.int .i64 l.head.age) ∧ x.cell? ⟨w.heap.size, 1, none⟩ = some (.int .i64 l.head.kind) ∧ x.cell? ⟨w.heap.size, 2, none⟩ = some (.int .i64 l.head.id) ∧ x.cell? ⟨w.heap.size, 3, none⟩ = some (.int .i64 l.head.adv) ∧ x.cell? ⟨w.heap.size, 4, none⟩ = some (.int .i64 l.head.seq) ∧ x.cell? ⟨w.heap.size, 5, none⟩ = some (.int .i64 l.head.sum) ∧ x.cell? ⟨w.heap.size, 6, none⟩ = some (.int .i64 l.head.len) ∧ x.cell? ⟨w.heap.size, 7, none⟩ = some (.int .i64 l.flags) ∧ x.cell? ⟨w.heap.size, 8, none⟩ = some (.slice s.la l.links.length s.lc) ∧ x.cell? ⟨w.heap.size, 9, none⟩ = some (.int .i64 l.bits) ∧ x.cell? ⟨w.heap.size, 10, none⟩ = some (.slice s.ra l.routers.length s.rc) ∧ x.cell? ⟨w.heap.size, 11, none⟩ = some (.slice s.va l.verts.length s.vc)) (first | exact keep_box (by assumption) hk hlt | go_keep)
        (first | (go_at_call 34; refine (hsl _ (HH.out.below hBd)).mono ?_; rintro e w2 ⟨rfl, hk⟩) | fail)
      rename_i hS
      have HB2 : Hid (Below w.heap.size w w2) := below_more hBd hk (Nat.le_of_lt hlt)
      have HE2 : Hid (EnvAt w2 p) := HE.out.below HB2.out (Nat.le_refl _)
      have v := HE2.out.var 0 (by decide)
      clear hS hk hsl hlt hBd c0 c1 c2 c3 c4 c5 c6 c7 c8 c9 c10 c11
      go_wp2_with fail
      refine (wrap_any _ _ _ _).mono ?_
      rintro e w3 ⟨rfl, hq⟩
      subst w3
      go_wp2
      go_ret
      exact ⟨⟨_, rfl⟩, HB2.out, HE2.out⟩
    | true =>
      have hBv : B = true := by rw [← HQ.out, h1, h2]; rfl
      subst hBv
      go_region_held3 (fun x => x.cell? ⟨w.heap.size, 0, none⟩ = some (.int .i64 l.head.age) ∧ x.cell? ⟨w.heap.size, 1, none⟩ = some (.int .i64 l.head.kind) ∧ x.cell? ⟨w.heap.size, 2, none⟩ = some (.int .i64 l.head.id) ∧ x.cell? ⟨w.heap.size, 3, none⟩ = some (.int .i64 l.head.adv) ∧ x.cell? ⟨w.heap.size, 4, none⟩ = some (.int .i64 l.head.seq) ∧ x.cell? ⟨w.heap.size, 5, none⟩ = some (.int .i64 l.head.sum) ∧ x.cell? ⟨w.heap.size, 6, none⟩ = some (.int .i64 l.head.len) ∧ x.cell? ⟨w.heap.size, 7, none⟩ = some (.int .i64 l.flags) ∧ x.cell? ⟨w.heap.size, 8, none⟩ = some (.slice s.la l.links.length s.lc) ∧ x.cell? ⟨w.heap.size, 9, none⟩ = some (.int .i64 l.bits) ∧ x.cell? ⟨w.heap.size, 10, none⟩ = some (.slice s.ra l.routers.length s.rc) ∧ x.cell? ⟨w.heap.size, 11, none⟩ = some (.slice s.va l.verts.length s.vc)) (first | exact keep_box (by assumption) hk hlt | go_keep)
        (first | (go_at_call 34; refine (hsl _ (HH.out.below hBd)).mono ?_; rintro e w2 ⟨rfl, hk⟩) | fail)
      rename_i hS
      have HB2 : Hid (Below w.heap.size w w2) := below_more hBd hk (Nat.le_of_lt hlt)
      have HE2 : Hid (EnvAt w2 p) := HE.out.below HB2.out (Nat.le_refl _)
      clear hS hk hsl hlt hBd c0 c1 c2 c3 c4 c5 c6 c7 c8 c9 c10 c11
      go_wp2
      go_ret
      exact ⟨rfl, HB2.out, HE2.out⟩
theorem check_any (s : Seats) (l : LsaZ) {p : Nat → Addr} (w : World) (hE : EnvAt w p) (hH : Held w s l) (hf : Mid l) :
    Calls Tryd.prog 29 #[.agg (lsaA s l)] w fun e w' => CheckEnd (sealedB l) p e ∧ Below w.heap.size w w' ∧ EnvAt w' p := by
  unfold sealedB
  cases hr : rightLsaB l with
  | true => rw [Bool.true_and]; exact check_seal s l w hE hH hf hr
  | false => rw [Bool.false_and]; exact check_right s l w hE hH hf.fits hr
/-- What Put tells. -/
def PutEnd (w : World) (l : LsaZ) (e : Ending) (w' : World) : Prop := Below w.heap.size w w' ∧ match sealedB l with
  | true => ∃ g cp, e = .returned (.tuple #[.slice (some ⟨g, 0, none⟩) (layZ l).length cp, .int .i64 0]) ∧ Owns w' w.heap.size g cp (layZ l)
  | false => e = .returned (.tuple #[.slice none 0 0, .int .i64 1])
set_option maxHeartbeats 1600000 in
theorem put_any (s : Seats) (l : LsaZ) (w : World) (hE : Env w) (hH : Held w s l) (hf : Mid l) :
    Calls Tryd.prog 11 #[.agg (lsaA s l)] w (PutEnd w l) := by
  unfold PutEnd
  obtain ⟨p, hE⟩ := hE
  have hck := fun W hE hH => check_any s l (p := p) W hE hH hf
  have HE : Hid (EnvAt w p) := hE
  have HH : Hid (Held w s l) := hH
  have HF : Hid (Mid l) := hf
  have HX : Hid (Box _ w.heap.size s l) := box_new w s l
  clear hE hH hf
  generalize sealedB l = B at *
  go_enter Tryd.func11, Tryd.ntmps11
  go_wp2_with fail
  refine (hck _ (HE.out.below (below_new' _ _) (Nat.le_refl _)) (HH.out.below (below_new' _ _))).mono ?_
  rintro e w1 ⟨he, hb, hE1⟩
  have HB : Hid (Below w.heap.size w w1) := below_more (below_new' _ _) hb (by simp)
  have HX1 : Hid (Box w1 w.heap.size s l) := HX.out.below hb HX.out.lt
  have HE1 : Hid (EnvAt w1 p) := hE1
  clear hb hck HX hE1
  cases B with
  | false =>
    obtain ⟨t, rfl⟩ := he
    go_wp2_with fail
    refine (number_0 HE1.out t).mono ?_
    rintro e w2 ⟨rfl, hb⟩
    have HB2 : Hid (Below w.heap.size w w2) := below_more HB.out hb HB.out.size
    clear hb
    go_wp2
    go_ret2
    exact ⟨HB2.out, rfl⟩
  | true =>
    have he' : e = .returned .nilIface := he
    subst he'
    obtain ⟨c0, c1, c2, c3, c4, c5, c6, c7, c8, c9, c10, c11⟩ := HX1.out
    go_wp2_with fail
    refine (lay_any s l _ (HH.out.below HB.out) HF.out).mono ?_
    rintro e w2 ⟨g, cp, rfl, ho, hb⟩
    have HB2 : Hid (Below w.heap.size w w2) := below_more HB.out hb HB.out.size
    have HO : Hid (Owns w2 w.heap.size g cp (layZ l)) := ho.base HB.out.size
    clear hb ho c0 c1 c2 c3 c4 c5 c6 c7 c8 c9 c10 c11
    go_wp2
    go_ret2
    exact ⟨HB2.out, g, cp, rfl, HO.out⟩
end Go.Proofs.YtoanjhccbmifmaaDoor
