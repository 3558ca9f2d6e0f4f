/- Advertisements as plain data; what is right; their bytes. -/
import Derived.Test.YtibbhfmpgpkdaaaBE
namespace Go.Proofs.Ytibbhfmpgpkdaaa

structure LinkZ where
  kind : Int
  id : Int
  data : Int
  cost : Int
structure VertZ where
  kind : Int
  id : Int
structure HeadZ where
  age : Int
  kind : Int
  id : Int
  adv : Int
  seq : Int
  sum : Int
  len : Int
structure LsaZ where
  head : HeadZ
  flags : Int
  links : List LinkZ
  bits : Int
  routers : List Int
  verts : List VertZ
theorem LinkZ.same {a b : LinkZ} (h1 : a.kind = b.kind) (h2 : a.id = b.id) (h3 : a.data = b.data) (h4 : a.cost = b.cost) : a = b := by
  cases a; cases b; simp_all
theorem VertZ.same {a b : VertZ} (h1 : a.kind = b.kind) (h2 : a.id = b.id) : a = b := by
  cases a; cases b; simp_all
theorem HeadZ.same {a b : HeadZ} (h1 : a.age = b.age) (h2 : a.kind = b.kind) (h3 : a.id = b.id) (h4 : a.adv = b.adv) (h5 : a.seq = b.seq) (h6 : a.sum = b.sum) (h7 : a.len = b.len) : a = b := by
  cases a; cases b; simp_all
theorem LsaZ.same {a b : LsaZ} (h1 : a.head = b.head) (h2 : a.flags = b.flags) (h3 : a.links = b.links) (h4 : a.bits = b.bits) (h5 : a.routers = b.routers) (h6 : a.verts = b.verts) : a = b := by
  cases a; cases b; simp_all
def decLink : DecidableEq LinkZ := fun a b => decidable_of_iff (a.kind = b.kind ∧ a.id = b.id ∧ a.data = b.data ∧ a.cost = b.cost) ⟨fun h => LinkZ.same h.1 h.2.1 h.2.2.1 h.2.2.2, fun h => by subst h; simp⟩
def decVert : DecidableEq VertZ := fun a b => decidable_of_iff (a.kind = b.kind ∧ a.id = b.id) ⟨fun h => VertZ.same h.1 h.2, fun h => by subst h; simp⟩
def eqLinksB (x y : List LinkZ) : Bool := @decide (x = y) (@List.hasDecEq LinkZ decLink x y)
def eqVertsB (x y : List VertZ) : Bool := @decide (x = y) (@List.hasDecEq VertZ decVert x y)
theorem eqLinksB_t {x y : List LinkZ} (h : x = y) : eqLinksB x y = true := by unfold eqLinksB; exact @decide_eq_true (x = y) (@List.hasDecEq LinkZ decLink x y) h
theorem eqLinksB_f {x y : List LinkZ} (h : ¬ x = y) : eqLinksB x y = false := by unfold eqLinksB; exact @decide_eq_false (x = y) (@List.hasDecEq LinkZ decLink x y) h
theorem eqLinksB_of {x y : List LinkZ} (h : eqLinksB x y = true) : x = y := by unfold eqLinksB at h; exact @of_decide_eq_true (x = y) (@List.hasDecEq LinkZ decLink x y) h
theorem eqVertsB_t {x y : List VertZ} (h : x = y) : eqVertsB x y = true := by unfold eqVertsB; exact @decide_eq_true (x = y) (@List.hasDecEq VertZ decVert x y) h
theorem eqVertsB_f {x y : List VertZ} (h : ¬ x = y) : eqVertsB x y = false := by unfold eqVertsB; exact @decide_eq_false (x = y) (@List.hasDecEq VertZ decVert x y) h
theorem eqVertsB_of {x y : List VertZ} (h : eqVertsB x y = true) : x = y := by unfold eqVertsB at h; exact @of_decide_eq_true (x = y) (@List.hasDecEq VertZ decVert x y) h

def amongB (n lo hi : Int) : Bool := decide (lo ≤ n) && decide (n ≤ hi)
def rightHeadB (h : HeadZ) : Bool := amongB h.age 0 3600 && rightI h.id && rightI h.adv && (h.adv != 0) && amongB h.seq (-2147483647) 2147483647
def rightLinkB (k : LinkZ) : Bool := amongB k.kind 1 3 && rightI k.id && rightI k.data && amongB k.cost 0 65535
def rightVertB (v : VertZ) : Bool := amongB v.kind 1 2 && rightI v.id
def rightListB {α : Type} (f : α → Bool) (l : List α) : Bool := decide (l.length ≤ 64) && l.all f
def noRouterB (l : LsaZ) : Bool := (l.flags == 0) && ((l.links.length : Int) == 0)
def noNetworkB (l : LsaZ) : Bool := (l.bits == 0) && ((l.routers.length : Int) == 0)
def noGroupB (l : LsaZ) : Bool := (l.verts.length : Int) == 0
def rightRouterB (l : LsaZ) : Bool := amongB l.flags 0 255 && rightListB rightLinkB l.links
def rightNetworkB (l : LsaZ) : Bool := amongB l.bits 0 32 && rightListB rightI l.routers
def rightGroupB (l : LsaZ) : Bool := rightListB rightVertB l.verts
def greatB (l : LsaZ) : Bool := decide (70 < (l.links.length : Int)) || decide (70 < (l.routers.length : Int)) || decide (70 < (l.verts.length : Int))
def rightBodyB (l : LsaZ) : Bool :=
  if l.head.kind = 1 then rightRouterB l && noNetworkB l && noGroupB l
  else if l.head.kind = 2 then noRouterB l && rightNetworkB l && noGroupB l
  else if l.head.kind = 6 then noRouterB l && noNetworkB l && rightGroupB l else false
def rightLsaB (l : LsaZ) : Bool := rightHeadB l.head && rightBodyB l
end Go.Proofs.Ytibbhfmpgpkdaaa
