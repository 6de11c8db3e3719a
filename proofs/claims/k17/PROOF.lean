import PyProof.Rows.All
import Wide.All
import OpenK.AllK
import Wide.FinOn
import Lean
import PyProof.EqAt
import PyProof.EqKinds
import PyProof.TupleCall
import PyProof.P3Eq
import PyProof.NeKinds
import PyProof.NsDelKeeps
import PyProof.RulesAs
import PyProof.ExcAttrAll.ValueError
import PySem.Challenge.RW_looprank_k17_rooms_come_to
set_option Elab.async false
set_option linter.all false
set_option maxRecDepth 100000
namespace L2
open PySem PySem.Spec PyProof.Rows
abbrev Key := Sum Int Str
def wZ : Key -> Value -> Bool
 | .inl k, v => Value.isInt k v
 | .inr x, v => Value.isStrOf x v
def aWc (w : World) : Key -> Int
 | .inl k => hashInt k
 | .inr x => hashStr w x
theorem dH : ∀ {k : Key} {v : Value}, wZ k v = true -> (∃ i t, k = Sum.inl i /\ v = Value.int i t) \/ (∃ x t, k = Sum.inr x /\ v = Value.str x t)
 | .inl i, v, h => by
  obtain ⟨t, e⟩ := Value.isInt_shape (k := i) (v := v) h
  exact .inl ⟨i, t, rfl, e⟩
 | .inr x, v, h => by
  obtain ⟨t, e⟩ := Value.isStrOf_shape (x := x) (v := v) h
  exact .inr ⟨x, t, rfl, e⟩
theorem aGx (i : Int) (t : Tok) : wZ (.inl i) (.int i t) = true := by simp [wZ, Value.isInt]
theorem aGy (x : Str) (t : Tok) : wZ (.inr x) (.str x t) = true := by simp [wZ, Value.isStrOf]
theorem aIi (a b : Int) : decide ((Sum.inl a : Key) = Sum.inl b) = (a == b) := by
 by_cases e : a = b
 ·subst e; simp
 ·have h : ¬ (Sum.inl a : Key) = Sum.inl b := fun q => e (Sum.inl.inj q)
  rw [decide_eq_false h]
  exact (beq_eq_false_iff_ne.mpr e).symm
theorem aIj (a b : Str) : decide ((Sum.inr a : Key) = Sum.inr b) = decide (a = b) := by
 by_cases e : a = b
 ·subst e; simp
 ·have h : ¬ (Sum.inr a : Key) = Sum.inr b := fun q => e (Sum.inr.inj q)
  rw [decide_eq_false h, decide_eq_false e]
theorem aIk (a : Int) (b : Str) : decide ((Sum.inl a : Key) = Sum.inr b) = false := decide_eq_false (fun q => nomatch q)
theorem aIl (a : Str) (b : Int) : decide ((Sum.inr a : Key) = Sum.inl b) = false := decide_eq_false (fun q => nomatch q)
def dO (prog : Program) (w : World) : PySem.KeyKind prog w Key where
 is := wZ
 hash := aWc w
 inj := fun v a b ha hb => by
  rcases dH ha with ⟨i, t, rfl, rfl⟩ | ⟨x, t, rfl, rfl⟩
  ·rcases dH hb with ⟨j, u, rfl, e⟩ | ⟨y, u, rfl, e⟩
   ·injection e with e1 _; rw [e1]
   ·exact nomatch e
  ·rcases dH hb with ⟨j, u, rfl, e⟩ | ⟨y, u, rfl, e⟩
   ·exact nomatch e
   ·injection e with e1 _; rw [e1]
 byValue := fun k v h => by
  rcases dH h with ⟨i, t, rfl, rfl⟩ | ⟨x, t, rfl, rfl⟩ <;> rfl
 pyHash := fun hv h => by
  rcases dH hv with ⟨i, t, rfl, rfl⟩ | ⟨x, t, rfl, rfl⟩
  ·exact wpAny_pyHash_int h
  ·exact wpAny_pyHash_str h
 eqBool := fun hu hv h => by
  rcases dH hu with ⟨i, t, rfl, rfl⟩ | ⟨x, t, rfl, rfl⟩
  ·rcases dH hv with ⟨j, u, rfl, rfl⟩ | ⟨y, u, rfl, rfl⟩
   ·rw [aIi] at h; exact wpAny_eqBool_int h
   ·rw [aIk] at h; exact SeqAt.EqAt.int_str i t y u _ _ _ _ h
  ·rcases dH hv with ⟨j, u, rfl, rfl⟩ | ⟨y, u, rfl, rfl⟩
   ·rw [aIl] at h; exact SeqAt.EqAt.str_int x t j u _ _ _ _ h
   ·rw [aIj] at h; exact wpAny_eqBool_str h
 «strs» := fun k x t v h => by
  rcases dH h with ⟨i, u, rfl, e⟩ | ⟨y, u, rfl, e⟩
  ·exact nomatch e
  ·injection e with e1 _
   subst e1
   cases v <;> rfl
theorem aCf (prog : Program) (w : World) (i : Int) (t : Tok) : (dO prog w).is (.inl i) (.int i t) = true := aGx i t
theorem aCg (prog : Program) (w : World) (x : Str) (t : Tok) : (dO prog w).is (.inr x) (.str x t) = true := aGy x t
end L2
namespace L2
open PySem PySem.Spec PyProof.Rows
inductive V where
 | non | bl (b : Bool) | int (i : Int) | str (x : Str) | byt (b : Array UInt8) | flt (b : UInt64) | ref (a : Addr) | ty (n : String)
 deriving DecidableEq
def RelV : V -> Value -> Prop
 | .non, u => u = Value.none
 | .bl b, u => u = Value.bool b
 | .int i, u => ∃ t, u = Value.int i t
 | .str x, u => ∃ t, u = Value.str x t
 | .byt b, u => ∃ t, u = Value.bytes b t
 | .flt b, u => ∃ t, u = Value.float b t
 | .ref a, u => u = Value.ref a
 | .ty n, u => u = Value.type n
abbrev Vals : List V -> List Value -> Prop := Paired RelV
theorem Vals.length {xs : List V} {us : List Value} (r : Vals xs us) : xs.length = us.length := Paired.length r
theorem Vals.get : ∀ {xs : List V} {us : List Value} {i : Nat} {x : V}, Vals xs us -> xs[i]? = some x -> ∃ u, us[i]? = some u /\ RelV x u
 | _, _, _, _, .nil, e => by simp at e
 | _, _, 0, _, .cons r _, e => by simp at e; subst e; exact ⟨_, rfl, r⟩
 | _, _, i + 1, x, .cons _ t, e => by
  obtain ⟨u, h1, h2⟩ := Vals.get (i := i) (x := x) t (by simpa using e)
  exact ⟨u, by simpa using h1, h2⟩
theorem Vals.append : ∀ {xs ys : List V} {us ws : List Value}, Vals xs us -> Vals ys ws -> Vals (xs ++ ys) (us ++ ws)
 | _, _, _, _, .nil, s => s
 | _, _, _, _, .cons r t, s => .cons r (Vals.append t s)
theorem Vals.take : ∀ {xs : List V} {us : List Value} (n : Nat), Vals xs us -> Vals (xs.take n) (us.take n)
 | _, _, 0, _ => .nil
 | _, _, _ + 1, .nil => .nil
 | _, _, n + 1, .cons r t => .cons r (Vals.take n t)
theorem Vals.drop : ∀ {xs : List V} {us : List Value} (n : Nat), Vals xs us -> Vals (xs.drop n) (us.drop n)
 | _, _, 0, r => r
 | _, _, _ + 1, .nil => .nil
 | _, _, n + 1, .cons _ t => Vals.drop n t
def oR : Option V -> Option Value -> Prop
 | some v, some u => RelV v u
 | none, none => True
 | _, _ => False
def KV {κ : Type} : List (κ × V) -> List (κ × Value) -> Prop := Paired fun (p : κ × V) (q : κ × Value) => p.1 = q.1 /\ RelV p.2 q.2
def kV : Key -> V
 | .inl i => .int i
 | .inr x => .str x
inductive HO where
 | lst (xs : List V)
 | tup (xs : List V)
 | dK (kvs : List (Key × V)) | dT (kvs : List (List Key × V))
 | set (S : Int -> Bool) (n : Nat)
 | ins (C dx : Addr) (fs : List (Str × V))
 | own (x : Addr)
 | xd (fs : List (Str × V))
 | met (f x : Addr)
 | rng (lo hi : Int)
 | frz (o : Obj) (u : HO)
 | tbl (ps : Array Value)
 | ext (φ : Heap -> Prop)
abbrev Hp := Addr -> Option HO
def upd (H : Hp) (a : Addr) (o : HO) : Hp := fun b => if b = a then some o else H b
theorem bV {H : Hp} {a : Addr} {o : HO} : upd H a o a = some o := by unfold upd; rw [if_pos rfl]
theorem bG {H : Hp} {a b : Addr} {o : HO} (h : b ≠ a) : upd H a o b = H b := by unfold upd; rw [if_neg h]
theorem aSk {H : Hp} {a b : Addr} {o u : HO} (h : H a = some o) (h' : H b = some u) (d : o ≠ u) : a ≠ b := by
 intro e; subst e; rw [h] at h'; exact d (Option.some.inj h')
theorem aU {H : Hp} {a b : Addr} {o : HO} (h : H a = some o) (h' : H b = none) : a ≠ b := by
 intro e; subst e; rw [h] at h'; cases h'
section
variable (P : Program) (w : World)
def gD (H : Hp) (h : Heap) (a : Addr) : HO -> Prop
 | .lst xs => xs.length <= sizeLine /\ ∃ (its : List Value) (n : Nat), Vals xs its /\ h.get? a = some { cls := .type "list", data := .seq its.toArray n }
 | .tup xs => xs.length <= sizeLine /\ ∃ its : List Value, Vals xs its /\ IsTup h a its.toArray
 | .dK kvs => kvs.length <= sizeLine /\ (a == sysModules) = false /\ ∃ vs, KV kvs vs /\ h.DictOf (dO P w) a vs
 | .dT kvs => kvs.length <= sizeLine /\ (a == sysModules) = false /\ ∃ xs : List (List Key × Addr × Value),
   Paired (fun (p : List Key × V) (q : List Key × Addr × Value) => p.1 = q.1 /\ H q.2.1 = some (.tup (p.1.map kV)) /\ RelV p.2 q.2.2) kvs xs /\
   ∃ o es ep, h.get? a = some o /\ o.ExactDict /\ o.data = .dict es ep /\ es.toList = xs.map (entryOfKey (tupleKind (dO P w))) /\ (xs.map (·.1)).Nodup
 | .set S n => h.SetOf (intKind P w) a S n
 | .ins C dx fs => H dx = some (.own a) /\ fs.length <= 1000 /\ dx ≠ a /\ h.get? a = some (PySem.W.instObj C dx) /\
   ∃ mA, h.Ns1 dx mA /\ (∀ f, oR (fs.lookup f) (mA f)) /\ PySem.Within mA (fs.map (·.1))
 | .own _ => ∃ o, h.get? a = some o
 | .xd fs => ∃ mA, h.Ns1 a mA /\ ∀ f, oR (fs.lookup f) (mA f)
 | .rng lo hi => ∃ t u v, h.get? a = some { cls := .type "range", data := .fields #[.int lo t, .int hi u, .int 1 v] }
 | .frz o u => h.get? a = some o /\ gD H h a u
 | .tbl ps => h.get? a = some { cls := .none, data := .fields ps }
 | .met f x => h.get? a = some (PySem.W.methodObj (.ref f) (.ref x))
 | .ext φ => φ h /\ (∃ o, h.get? a = some o) /\ ∀ h1 h2 : Heap, φ h1 -> (∀ o, h1.get? a = some o -> h2.get? a = some o) -> φ h2
def HOk (H : Hp) (h : Heap) : Prop := ∀ a o, H a = some o -> gD P w H h a o
end
section
variable {P : Program} {w : World} {H H' : Hp} {h h' : Heap} {a : Addr} {o : HO}
theorem gD.lt (x : gD P w H h a o) : a < h.objs.size := by
 cases o with
 | lst xs => obtain ⟨_, _, _, _, e⟩ := x; exact Heap.lt_size e
 | tup xs => obtain ⟨_, _, _, p⟩ := x; exact p.lt
 | dK kvs => obtain ⟨_, _, _, _, o, _, _, e, _⟩ := x; exact Heap.lt_size e
 | dT kvs => obtain ⟨_, _, _, _, o, _, _, e, _⟩ := x; exact Heap.lt_size e
 | set S n => obtain ⟨o, _, _, _, e, _⟩ := x; exact Heap.lt_size e
 | ins C dx fs => obtain ⟨_, _, _, e, _⟩ := x; exact Heap.lt_size e
 | own y => obtain ⟨_, e⟩ := x; exact Heap.lt_size e
 | xd fs => obtain ⟨_, ⟨_, _, _, e, _⟩, _⟩ := x; exact Heap.lt_size e
 | rng lo hi => obtain ⟨_, _, _, e⟩ := x; exact Heap.lt_size e
 | frz ob u => obtain ⟨e, _⟩ := x; exact Heap.lt_size e
 | tbl ps => exact Heap.lt_size (show h.get? a = some _ from x)
 | met f y => exact Heap.lt_size (show h.get? a = some _ from x)
 | ext φ => obtain ⟨_, ⟨_, e⟩, _⟩ := x; exact Heap.lt_size e
theorem Paired.mapP {α β : Type} {F G : α -> β -> Prop} : ∀ {l₁ : List α} {l₂ : List β}, Paired F l₁ l₂ -> (∀ a b, F a b -> G a b) -> Paired G l₁ l₂
 | _, _, .nil, _ => .nil
 | _, _, .cons r t, f => .cons (f _ _ r) (Paired.mapP t f)
theorem gD.stay (x : gD P w H h a o) (k : ∀ b u, (b = a \/ H b = some (.own a)) -> h.get? b = some u -> h'.get? b = some u)
  (ho : ∀ b, H b = some (.own a) -> H' b = some (.own a)) (ht : ∀ b xs, H b = some (.tup xs) -> H' b = some (.tup xs)) : gD P w H' h' a o := by
 induction o with
 | lst xs => obtain ⟨z, its, n, r, e⟩ := x; exact ⟨z, its, n, r, k _ _ (.inl rfl) e⟩
 | tup xs => obtain ⟨z, its, r, ob, e, c⟩ := x; exact ⟨z, its, r, ob, k _ _ (.inl rfl) e, c⟩
 | dK kvs => obtain ⟨z, y, vs, r, ob, es, ep, e, c⟩ := x; exact ⟨z, y, vs, r, ob, es, ep, k _ _ (.inl rfl) e, c⟩
 | dT kvs =>
  obtain ⟨z, y, xs, r, ob, es, ep, e, c⟩ := x
  exact ⟨z, y, xs, Paired.mapP r fun p q z => ⟨z.1, ht _ _ z.2.1, z.2.2⟩, ob, es, ep, k _ _ (.inl rfl) e, c⟩
 | set S n => obtain ⟨ob, es, ep, t, e, c⟩ := x; exact ⟨ob, es, ep, t, k _ _ (.inl rfl) e, c⟩
 | ins C dx fs =>
  obtain ⟨d, z, ne, e, mA, ⟨od, es, ep, e2, c⟩, r⟩ := x
  exact ⟨ho _ d, z, ne, k _ _ (.inl rfl) e, mA, ⟨od, es, ep, k _ _ (.inr d) e2, c⟩, r⟩
 | own y => obtain ⟨ob, e⟩ := x; exact ⟨ob, k _ _ (.inl rfl) e⟩
 | xd fs => obtain ⟨mA, ⟨od, es, ep, e, c⟩, r⟩ := x; exact ⟨mA, ⟨od, es, ep, k _ _ (.inl rfl) e, c⟩, r⟩
 | rng lo hi => obtain ⟨t, u, v, e⟩ := x; exact ⟨t, u, v, k _ _ (.inl rfl) e⟩
 | frz ob u ih => obtain ⟨e, q⟩ := x; exact ⟨k _ _ (.inl rfl) e, ih q⟩
 | tbl ps =>
  have e : h.get? a = some { cls := .none, data := .fields ps } := x
  show h'.get? a = some { cls := .none, data := .fields ps }
  exact k a _ (.inl rfl) e
 | met f y =>
  have e : h.get? a = some (PySem.W.methodObj (.ref f) (.ref y)) := x
  show h'.get? a = some (PySem.W.methodObj (.ref f) (.ref y))
  exact k a _ (.inl rfl) e
 | ext φ => obtain ⟨p, ⟨o, e⟩, st⟩ := x; exact ⟨st _ _ p fun o q => k _ _ (.inl rfl) q, ⟨o, k _ _ (.inl rfl) e⟩, st⟩
theorem HOk.lt (x : HOk P w H h) (e : H a = some o) : a < h.objs.size := (x a o e).lt
theorem HOk.fresh (x : HOk P w H h) (e : h.objs.size <= a) : H a = none := by
 cases q : H a with
 | none => rfl
 | some u => exact absurd (Nat.lt_of_lt_of_le (x.lt q) e) (Nat.lt_irrefl _)
theorem HOk.kept (x : HOk P w H h) (k : ∀ b u, h.get? b = some u -> h'.get? b = some u) : HOk P w H h' := fun a o e =>
 (x a o e).stay (fun b u _ q => k b u q) (fun _ q => q) fun _ _ q => q
theorem HOk.laid (x : HOk P w H h) (k : ∀ b u, h.get? b = some u -> h'.get? b = some u) (hp : h.objs.size <= a) (new : gD P w (upd H a o) h' a o) : HOk P w (upd H a o) h' := fun b u e => by
 have hn := x.fresh hp
 by_cases hb : b = a
 ·subst hb; rw [bV] at e; cases e; exact new
 ·rw [bG hb] at e
  exact (x b u e).stay (fun c v _ q => k c v q) (fun c q => by rw [bG (aU q hn)]; exact q) fun c xs q => by rw [bG (aU q hn)]; exact q
end
def Rd (H : Hp) (a : Addr) (u : HO) : Prop := H a = some u \/ ∃ o, H a = some (.frz o u)
theorem Rd.ok {P : Program} {w : World} {H : Hp} {h : Heap} {a : Addr} {u : HO} (r : Rd H a u) (x : HOk P w H h) : gD P w H h a u := by
 rcases r with r | ⟨o, r⟩
 ·exact x a u r
 ·obtain ⟨_, q⟩ := x a _ r
  exact q
def Mut : Option HO -> Prop
 | some (.lst _) => True
 | some (.dK _) => True
 | some (.dT _) => True
 | some (.set _ _) => True
 | some (.ins _ _ _) => True
 | some (.ext _) => True
 | _ => False
section
variable {P : Program} {w : World} {H : Hp} {h h' : Heap} {x e : Addr} {o' : HO}
theorem HOk.write (ok : HOk P w H h) (mu : Mut (H x)) (he : e = x \/ H e = some (.own x)) (k : ∀ b u, b ≠ e -> h.get? b = some u -> h'.get? b = some u) (heo : ∃ u, h'.get? e = some u)
  (new : gD P w (upd H x o') h' x o') : HOk P w (upd H x o') h' := fun b u q => by
 have nown : ∀ c y, H c = some (.own y) -> c ≠ x := fun c y r z => by subst z; rw [r] at mu; exact mu
 have ntup : ∀ c xs, H c = some (.tup xs) -> c ≠ x := fun c xs r z => by subst z; rw [r] at mu; exact mu
 by_cases hb : b = x
 ·subst hb; rw [bV] at q; cases q; exact new
 ·rw [bG hb] at q
  by_cases hbe : b = e
  ·have q' : H b = some (.own x) := by
    rcases he with z | z
    ·exact absurd (hbe.trans z) hb
    ·rw [hbe]; exact z
   rw [q] at q'; cases q'
   obtain ⟨v, hv⟩ := heo
   exact ⟨v, by rw [hbe]; exact hv⟩
  ·refine (ok b u q).stay (fun c v hc r => k c v ?_ r) (fun c r => by rw [bG (nown c b r)]; exact r) fun c xs r => by rw [bG (ntup c xs r)]; exact r
   rcases hc with rfl | hc
   ·exact hbe
   ·rintro rfl
    rcases he with z | z
    ·exact nown c b hc z
    ·rw [hc] at z; cases z; exact hb rfl
end
structure Un (fs ex : List Addr) (H H' : Hp) (h h' : Heap) : Prop where
 keep : ∀ b o, h.get? b = some o -> H b = none -> b ∉ fs -> b ∉ ex -> h'.get? b = some o
 slot : ∀ b o, h.get? b = some o -> H b = none -> b ∈ fs -> b ∉ ex -> ∃ sl, h'.get? b = some { o with slots := sl }
 free : ∀ b o, h.get? b = some o -> H b = none -> b ∉ ex -> H' b = none
 there : ∀ b o, h.get? b = some o -> b ∉ ex -> ∃ o', h'.get? b = some o'
 tups : ∀ b xs, H b = some (.tup xs) -> H' b = some (.tup xs)
 frzs : ∀ b o u, H b = some (.frz o u) -> H' b = some (.frz o u)
 tbls : ∀ b ps, H b = some (.tbl ps) -> ∃ more, H' b = some (.tbl (ps ++ more))
section
variable {fs fs' ex ex' : List Addr} {H H1 H2 : Hp} {h h1 h2 h' : Heap} {a x e : Addr} {o : HO}
theorem Un.any (u : Un fs ex H H1 h h1) {b : Addr} {ob : Obj} (q : h.get? b = some ob) (n : H b = none) (hx : b ∉ ex) : ∃ sl, h1.get? b = some { ob with slots := sl } := by
 by_cases hb : b ∈ fs
 ·exact u.slot b ob q n hb hx
 ·exact ⟨ob.slots, u.keep b ob q n hb hx⟩
theorem Un.kept (k : ∀ b u, h.get? b = some u -> h'.get? b = some u) : Un fs ex H H h h' :=
 ⟨fun b ob q _ _ _ => k b ob q, fun b ob q _ _ _ => ⟨ob.slots, k b ob q⟩, fun _ _ _ n _ => n, fun b ob q _ => ⟨ob, k b ob q⟩, fun _ _ q => q, fun _ _ _ q => q, fun _ ps q => ⟨#[], by rw [q]; simp⟩⟩
theorem Un.refl : Un fs ex H H h h := Un.kept fun _ _ q => q
theorem Un.laid (k : ∀ b u, h.get? b = some u -> h'.get? b = some u) (hp : h.objs.size <= a) (hn : H a = none) : Un fs ex H (upd H a o) h h' where
 keep := fun b u q _ _ _ => k b u q
 slot := fun b u q _ _ _ => ⟨u.slots, k b u q⟩
 free := fun b u q n _ => by rw [bG (Nat.ne_of_lt (Nat.lt_of_lt_of_le (Heap.lt_size q) hp))]; exact n
 there := fun b u q _ => ⟨u, k b u q⟩
 tups := fun b xs q => by rw [bG (aU q hn)]; exact q
 frzs := fun b u xs q => by rw [bG (aU q hn)]; exact q
 tbls := fun b ps q => ⟨#[], by rw [bG (aU q hn), q]; simp⟩
theorem Un.write (mu : Mut (H x)) (he : e = x \/ H e = some (.own x)) (k : ∀ b u, b ≠ e -> h.get? b = some u -> h'.get? b = some u) (heo : ∃ u, h'.get? e = some u) : Un fs ex H (upd H x o) h h' := by
 have hx : ∀ b, H b = none -> b ≠ x := fun b n z => by subst z; rw [n] at mu; exact mu
 have hb : ∀ b, H b = none -> b ≠ e := fun b n z => by
  subst z
  rcases he with r | r
  ·exact hx b n r
  ·rw [n] at r; cases r
 have hm : ∀ b u, H b = some u -> ¬ Mut (some u) -> b ≠ x := fun b u q nm z => by subst z; rw [q] at mu; exact nm mu
 refine ⟨fun b u q n _ _ => k b u (hb b n) q, fun b u q n _ _ => ⟨u.slots, k b u (hb b n) q⟩, fun b u q n _ => by rw [bG (hx b n)]; exact n, fun b u q _ => ?_,
  fun b xs q => by rw [bG (hm b _ q fun z => z)]; exact q, fun b u xs q => by rw [bG (hm b _ q fun z => z)]; exact q, fun b ps q => ⟨#[], by rw [bG (hm b _ q fun z => z), q]; simp⟩⟩
 by_cases hbe : b = e
 ·subst hbe; exact heo
 ·exact ⟨u, k b u hbe q⟩
end
def trk (h : Heap) (H : Hp) : List Addr := (List.range h.objs.size).filter fun a => (H a).isSome
def aB2 (h : Heap) (H : Hp) : Heap := PySem.W.hideAll h (trk h H)
theorem aGz (h : Heap) (H : Hp) : (aB2 h H).objs.size = h.objs.size := PySem.W.hideAll_size _ _
theorem aIm {h : Heap} {H : Hp} {b : Addr} {o : Obj} (e : h.get? b = some o) (n : H b = none) : (aB2 h H).get? b = some o :=
 PySem.W.hideAll_get _ e fun hm => by
  have q : (H b).isSome = true := (List.mem_filter.mp hm).2
  rw [n] at q; simp at q
theorem aLl {h : Heap} {H : Hp} {b : Addr} {o : Obj} (e : (aB2 h H).get? b = some o) : h.get? b = some o /\ H b = none := by
 have e' : h.get? b = some o := PySem.W.of_hideAll (trk h H) e
 refine ⟨e', ?_⟩
 cases q : H b with
 | none => rfl
 | some x =>
  have hm : b ∈ trk h H := List.mem_filter.mpr ⟨List.mem_range.mpr (Heap.lt_size e'), by simp [q]⟩
  have z : (aB2 h H).get? b = none := PySem.W.hideAll_none (trk h H) hm
  rw [z] at e; cases e
def aLm (g h : Heap) (L : Addr) : List (Addr × Obj) := (List.range h.objs.size).filterMap fun a => if a = L \/ (g.get? a).isSome = true then none else (h.get? a).map fun o => (a, o)
def rest (g h : Heap) (L d : Addr) : List (Addr × Obj) := (aLm g h L).filter fun p => decide (p.1 ≠ d)
end L2
namespace L2
open PySem PySem.Spec PyProof.Rows
structure Mod (K : PySem.W.Frag) (mg : Str -> Option Value) (base : Heap) : Prop where
 kin : K.In base
 glob : base.Ns mainGlobals mg
 blt : ∃ mb, base.Ns builtinsNs mb /\ ∀ x : Str, x ≠ "__name__" -> mb x = bootBuiltins x
 nolimit : base.NoLimit
structure Cx where
 prog : Program
 w : World
 K : PySem.W.Frag
 mg : Str -> Option Value
 base : Heap
 A : Around
 N : List Str
 s₀ : Shared
 H₀ : Hp
 env : Env
 outer : List Env
 stack : List Env
 ex : List Addr
 fn : Str -> Bool
 calm : Bool
 pn : List (Addr × Obj)
 xe : Value -> Shared -> Prop
def frs (l : List Env) : List Addr := l.filterMap (·.frame)
abbrev Cx.fs (X : Cx) : List Addr := frs X.outer
def Vis (sc : Scope) (x : Str) : Prop := sc.names.lookup x = some .local \/ sc.names.lookup x = some .cell \/ sc.names.lookup x = some .free
def Loc (sc : Scope) (x : Str) : Prop := sc.names.lookup x = some .local \/ sc.names.lookup x = some .cell
def Look (env : Env) (h : Heap) (m : Str -> Option Value) (x : Str) (u : Value) : Prop :=
 (env.kindOf x = some .local /\ m x = some u) \/ ((env.kindOf x = some .cell \/ env.kindOf x = some .free) /\ ∃ c, env.cells.lookup x = some c /\ h.IsCell c (some u))
structure Cx.Ok (X : Cx) : Prop where
 mod : Mod X.K X.mg X.base
 kind : X.env.scope.kind = .function
 glob : X.env.globals = mainGlobals
 blt : X.env.builtins = builtinsNs
 above : X.s₀.heap.objs.size <= X.env.locals
 inj : ∀ x y c, X.env.cells.lookup x = some c -> X.env.cells.lookup y = some c -> x = y
 has : ∀ x, (X.env.kindOf x = some .cell \/ X.env.kindOf x = some .free) -> ∃ c, X.env.cells.lookup x = some c
 cab : ∀ x c, X.fn x = true -> X.env.cells.lookup x = some c -> X.s₀.heap.objs.size <= c
 hd : X.calm = true -> X.A.handled = none
 frames : X.A.frames = some X.stack
 stk : X.stack = X.outer \/ (X.stack = X.env :: X.outer /\ X.env.frame = some X.env.locals)
 exf : ∀ b ∈ X.ex, b ≠ X.env.locals /\ ∀ x c, X.env.cells.lookup x = some c -> c ≠ b
 bs : ∀ b o, X.base.get? b = some o -> X.s₀.heap.get? b = some o /\ X.H₀ b = none
 bsz : X.base.objs.size <= X.s₀.heap.objs.size
 noex : ∀ b o, X.base.get? b = some o -> b ∉ X.ex
 exfs : ∀ b ∈ X.ex, b ∉ X.fs
 funs : X.s₀.heap.FunFrames X.base X.outer
 frf : ∀ b ∈ X.fs, X.H₀ b = none
structure Inv (X : Cx) (pins : List (Addr × Obj)) (σ : List (Option V)) (H : Hp) (s : Shared) : Prop where
 ok : X.Ok
 os : s.os = X.s₀.os
 bare : AllBare s.gens
 base : Un X.fs X.ex X.H₀ H X.s₀.heap s.heap
 loc : ∃ m, s.heap.Ns X.env.locals m /\ ∀ (i : Nat) (x : Str) (v : V), X.N[i]? = some x -> σ[i]? = some (some v) -> Vis X.env.scope x -> ∃ u, RelV v u /\ Look X.env s.heap m x u
 cell : ∀ x c, X.env.cells.lookup x = some c -> ∃ v, s.heap.IsCell c v
 free : H X.env.locals = none
 freeC : ∀ x c, X.env.cells.lookup x = some c -> H c = none
 pin : ∀ p ∈ X.pn ++ pins, s.heap.get? p.1 = some p.2 /\ H p.1 = none /\ p.1 ≠ X.env.locals /\ p.1 ∉ X.fs /\ ∀ v, p.2.data ≠ .cell v
 hok : HOk X.prog X.w H s.heap
 len : σ.length = X.N.length
section
variable {X : Cx} {pins : List (Addr × Obj)} {σ : List (Option V)} {H H' : Hp} {s : Shared} {h' : Heap}
theorem Cx.Ok.nofr (ok : X.Ok) {b : Addr} {o : Obj} (e : X.base.get? b = some o) : b ∉ X.fs := fun hb => by
 have := (ok.funs.mem hb).1
 rw [e] at this; cases this
theorem Inv.bs (I : Inv X pins σ H s) : ∀ b o, X.base.get? b = some o -> s.heap.get? b = some o /\ H b = none := fun b o e =>
 ⟨I.base.keep b o (I.ok.bs b o e).1 (I.ok.bs b o e).2 (I.ok.nofr e) (I.ok.noex b o e), I.base.free b o (I.ok.bs b o e).1 (I.ok.bs b o e).2 (I.ok.noex b o e)⟩
theorem Inv.bk (I : Inv X pins σ H s) : ∀ b o, X.base.get? b = some o -> s.heap.get? b = some o := fun b o e => (I.bs b o e).1
theorem Inv.mod (I : Inv X pins σ H s) : Mod X.K X.mg X.base := I.ok.mod
theorem Inv.kIn (I : Inv X pins σ H s) : X.K.In s.heap := I.ok.mod.kin.keeps I.bk
theorem Inv.lt (I : Inv X pins σ H s) : X.env.locals < s.heap.objs.size := let ⟨_, hn, _⟩ := I.loc; hn.lt
theorem Inv.sz (I : Inv X pins σ H s) : X.s₀.heap.objs.size <= s.heap.objs.size := Nat.le_trans I.ok.above (Nat.le_of_lt I.lt)
theorem Inv.nofs (I : Inv X pins σ H s) {a : Addr} (h : s.heap.objs.size <= a) : a ∉ X.fs := fun hb => by
 obtain ⟨_, o, ho, _⟩ := I.ok.funs.mem hb
 exact absurd (Nat.lt_of_lt_of_le (Heap.lt_size ho) (Nat.le_trans I.sz h)) (Nat.lt_irrefl _)
theorem Inv.cne (I : Inv X pins σ H s) : ∀ x c, X.env.cells.lookup x = some c -> c ≠ X.env.locals := fun x c e z => by
 obtain ⟨v, o, ho, hd⟩ := I.cell x c e
 obtain ⟨m, ⟨o', es, ep, ho', hd', _⟩, _⟩ := I.loc
 rw [z, ho'] at ho; cases ho; rw [hd'] at hd; cases hd
theorem Inv.funs (I : Inv X pins σ H s) : s.heap.FunFrames X.base X.outer := by
 have all : ∀ (l : List Env), (∀ b ∈ frs l, b ∈ X.fs) -> X.s₀.heap.FunFrames X.base l -> s.heap.FunFrames X.base l := by
  intro l
  induction l with
  | nil => intro _ _; trivial
  | cons env r ih =>
   intro hs hl
   obtain ⟨hk, ⟨L, o, hf, hn, ho, hd⟩, hr⟩ := hl
   have hL : L ∈ X.fs := hs L (by unfold frs; rw [List.filterMap_cons, hf]; exact List.mem_cons_self)
   obtain ⟨sl, e⟩ := I.base.slot L o ho (I.ok.frf L hL) hL fun z => I.ok.exfs L z hL
   exact ⟨hk, ⟨L, _, hf, hn, e, hd⟩, ih (fun b hb => hs b (by unfold frs; rw [List.filterMap_cons, hf]; exact List.mem_cons_of_mem _ hb)) hr⟩
 exact all X.outer (fun _ hb => hb) I.ok.funs
theorem Inv.stack (I : Inv X pins σ H s) : s.heap.FunFrames X.base X.stack := by
 rcases I.ok.stk with e | ⟨e, hf⟩
 ·rw [e]; exact I.funs
 ·rw [e]
  obtain ⟨m, hn, _⟩ := I.loc
  refine .cons (by rw [I.ok.kind]; decide) hf hn ?_ I.funs
  exact Heap.get?_none_of_le (Nat.le_trans I.ok.bsz I.ok.above)
theorem Inv.stkSub (I : Inv X pins σ H s) : ∀ b ∈ frs X.stack, b ∈ X.env.locals :: X.fs := fun b hb => by
 rcases I.ok.stk with e | ⟨e, hf⟩
 ·rw [e] at hb; exact List.mem_cons_of_mem _ hb
 ·rw [e] at hb
  unfold frs at hb
  rw [List.filterMap_cons, hf] at hb
  exact hb
theorem Inv.stkFree (I : Inv X pins σ H s) : ∀ b ∈ frs X.stack, H b = none := fun b hb => by
 rcases List.mem_cons.mp (I.stkSub b hb) with e | hb
 ·rw [e]; exact I.free
 ·obtain ⟨_, o, ho, _⟩ := I.ok.funs.mem hb
  exact I.base.free b o ho (I.ok.frf b hb) fun z => I.ok.exfs b z hb
theorem Inv.step {g' : Array GenState} {t' : Nat} {d' : Drawn} {ch : List Addr} (I : Inv X pins σ H s)
  (hch : ∀ b ∈ ch, (b ∈ X.ex \/ X.s₀.heap.objs.size <= b) /\ b ≠ X.env.locals /\ (∀ x c, X.env.cells.lookup x = some c -> c ≠ b) /\ ∀ p ∈ X.pn ++ pins, p.1 ≠ b)
  (keep : ∀ b o, b ≠ X.env.locals -> b ∉ X.fs -> b ∉ ch -> s.heap.get? b = some o -> H b = none -> h'.get? b = some o)
  (slot : ∀ b o, b ≠ X.env.locals -> b ∈ X.fs -> b ∉ ch -> s.heap.get? b = some o -> H b = none -> ∃ sl, h'.get? b = some { o with slots := sl }) (free : ∀ b o, b ∉ ch -> s.heap.get? b = some o -> H b = none -> H' b = none)
  (there : ∀ b o, b ∉ ch -> s.heap.get? b = some o -> ∃ o', h'.get? b = some o')
  (tups : ∀ b xs, H b = some (.tup xs) -> H' b = some (.tup xs)) (frzs : ∀ b o u, H b = some (.frz o u) -> H' b = some (.frz o u)) (tbls : ∀ b ps, H b = some (.tbl ps) -> ∃ more, H' b = some (.tbl (ps ++ more)))
  (ns : ∀ m, s.heap.Ns X.env.locals m -> h'.Ns X.env.locals m) (hok : HOk X.prog X.w H' h') (hg : AllBare g') :
  Inv X pins σ H' { s with heap := h', gens := g', drawn := d', toks := t' } := by
 have neL : ∀ b o, X.s₀.heap.get? b = some o -> b ≠ X.env.locals := fun b o e => Nat.ne_of_lt (Nat.lt_of_lt_of_le (Heap.lt_size e) I.ok.above)
 have neC : ∀ b o, X.s₀.heap.get? b = some o -> b ∉ X.ex -> b ∉ ch := fun b o e hx hb => by
  rcases (hch b hb).1 with z | z
  ·exact hx z
  ·exact absurd (Nat.lt_of_lt_of_le (Heap.lt_size e) z) (Nat.lt_irrefl _)
 have cellK : ∀ x c, X.env.cells.lookup x = some c -> ∀ v, s.heap.IsCell c v -> h'.IsCell c v := fun x c e v ⟨o, ho, hd⟩ => by
  have nch : c ∉ ch := fun z => (hch c z).2.2.1 x c e rfl
  by_cases hc : c ∈ X.fs
  ·obtain ⟨sl, q⟩ := slot c o (I.cne x c e) hc nch ho (I.freeC x c e)
   exact ⟨_, q, hd⟩
  ·exact ⟨o, keep c o (I.cne x c e) hc nch ho (I.freeC x c e), hd⟩
 refine ⟨I.ok, I.os, hg, ⟨fun b o e n hb hx => ?_, fun b o e n hb hx => ?_, fun b o e n hx => ?_, fun b o e hx => ?_, fun b xs e => tups b xs (I.base.tups b xs e), fun b o xs e => frzs b o xs (I.base.frzs b o xs e), fun b ps e => ?_⟩, ?_, fun x c e => ?_, ?_, fun x c e => ?_, fun p hp => ?_, hok, I.len⟩
 ·exact keep b o (neL b o e) hb (neC b o e hx) (I.base.keep b o e n hb hx) (I.base.free b o e n hx)
 ·obtain ⟨sl, e1⟩ := I.base.slot b o e n hb hx
  obtain ⟨sl', e2⟩ := slot b _ (neL b o e) hb (neC b o e hx) e1 (I.base.free b o e n hx)
  exact ⟨sl', e2⟩
 ·obtain ⟨o', e1⟩ := I.base.there b o e hx
  exact free b o' (neC b o e hx) e1 (I.base.free b o e n hx)
 ·obtain ⟨o', e1⟩ := I.base.there b o e hx
  exact there b o' (neC b o e hx) e1
 ·obtain ⟨m1, e1⟩ := I.base.tbls b ps e
  obtain ⟨m2, e2⟩ := tbls b _ e1
  exact ⟨m1 ++ m2, by rw [e2, Array.append_assoc]⟩
 ·obtain ⟨m, hn, hl⟩ := I.loc
  refine ⟨m, ns m hn, fun i x v e1 e2 e3 => ?_⟩
  obtain ⟨u, r, l⟩ := hl i x v e1 e2 e3
  refine ⟨u, r, ?_⟩
  rcases l with l | ⟨k, c, e, z⟩
  ·exact .inl l
  ·exact .inr ⟨k, c, e, cellK x c e _ z⟩
 ·obtain ⟨v, z⟩ := I.cell x c e
  exact ⟨v, cellK x c e v z⟩
 ·obtain ⟨m, ⟨o, _, _, ho, _⟩, _⟩ := I.loc
  exact free _ o (fun z => (hch _ z).2.1 rfl) ho I.free
 ·obtain ⟨v, o, ho, hd⟩ := I.cell x c e
  exact free c o (fun z => (hch c z).2.2.1 x c e rfl) ho (I.freeC x c e)
 ·obtain ⟨e, n, ne, nf, d⟩ := I.pin p hp
  have nch : p.1 ∉ ch := fun z => (hch p.1 z).2.2.2 p hp rfl
  exact ⟨keep p.1 p.2 ne nf nch e n, free p.1 p.2 nch e n, ne, nf, d⟩
theorem Inv.un {t' : Nat} (I : Inv X pins σ H s) (u : Un X.fs [] H H' s.heap h') (hok : HOk X.prog X.w H' h') : Inv X pins σ H' { s with heap := h', toks := t' } := by
 obtain ⟨m, ⟨o, es, ep, ho, r⟩, _⟩ := id I.loc
 obtain ⟨sl, hL⟩ := u.any ho I.free (by simp)
 exact I.step (g' := s.gens) (d' := s.drawn) (ch := []) (fun _ z => nomatch z) (fun b o _ hb _ e n => u.keep b o e n hb (by simp)) (fun b o _ hb _ e n => u.slot b o e n hb (by simp)) (fun b o _ e n => u.free b o e n (by simp)) (fun b o _ e => u.there b o e (by simp)) u.tups u.frzs u.tbls (fun m' hm => by
  obtain ⟨o', es', ep', ho', r'⟩ := hm
  rw [ho] at ho'; cases ho'
  exact ⟨_, es', ep', hL, r'⟩) hok I.bare
theorem Inv.call {g' : Array GenState} {t' : Nat} {d' : Drawn} {ch : List Addr} (I : Inv X pins σ H s) (u : Un (frs X.stack) ch H H' s.heap h') (hok : HOk X.prog X.w H' h') (hg : AllBare g')
  (hch : ∀ b ∈ ch, (b ∈ X.ex \/ X.s₀.heap.objs.size <= b) /\ b ≠ X.env.locals /\ (∀ x c, X.env.cells.lookup x = some c -> c ≠ b) /\ ∀ p ∈ X.pn ++ pins, p.1 ≠ b) :
  Inv X pins σ H' { s with heap := h', gens := g', drawn := d', toks := t' } := by
 obtain ⟨m, ⟨o, es, ep, ho, r⟩, _⟩ := id I.loc
 obtain ⟨sl, hL⟩ := u.any ho I.free fun z => (hch _ z).2.1 rfl
 exact I.step (ch := ch) hch (fun b o hL hb hc e n => u.keep b o e n (fun z => (List.mem_cons.mp (I.stkSub b z)).elim hL hb) hc) (fun b o _ _ hc e n => u.any e n hc) (fun b o hc e n => u.free b o e n hc) (fun b o hc e => u.there b o e hc) u.tups u.frzs u.tbls (fun m' hm => by
  obtain ⟨o', es', ep', ho', r'⟩ := hm
  rw [ho] at ho'; cases ho'
  exact ⟨_, es', ep', hL, r'⟩) hok hg
theorem Inv.turned {t' : Nat} {it : Addr} (I : Inv X pins σ H s) (k : ∀ b o, b ≠ it -> s.heap.get? b = some o -> h'.get? b = some o) (hn : H it = none) (hL : it ≠ X.env.locals)
  (h1 : it ∈ X.ex \/ X.s₀.heap.objs.size <= it) (h2 : ∀ x c, X.env.cells.lookup x = some c -> c ≠ it) (h3 : ∀ p ∈ X.pn ++ pins, p.1 ≠ it) : Inv X pins σ H { s with heap := h', toks := t' } := by
 have nit : ∀ b u, H b = some u -> b ≠ it := fun b u e z => by rw [z, hn] at e; cases e
 refine I.step (g' := s.gens) (d' := s.drawn) (ch := [it]) (fun b hb => ?_) (fun b o _ _ hc e _ => k b o (fun z => hc (by simp [z])) e) (fun b o _ _ hc e _ => ⟨o.slots, k b o (fun z => hc (by simp [z])) e⟩) (fun _ _ _ _ n => n)
  (fun b o hc e => ⟨o, k b o (fun z => hc (by simp [z])) e⟩) (fun _ _ e => e) (fun _ _ _ e => e) (fun b ps e => ⟨#[], by rw [e]; simp⟩) (fun m hm => ?_) (fun b u e => ?_) I.bare
 ·have e : b = it := by simpa using hb
  subst e
  exact ⟨h1, hL, h2, h3⟩
 ·obtain ⟨o, es, ep, ho, r⟩ := hm
  exact ⟨o, es, ep, k _ o (Ne.symm hL) ho, r⟩
 ·refine (I.hok b u e).stay (fun c v hc q => k c v ?_ q) (fun _ q => q) fun _ _ q => q
  rcases hc with z | z
  ·rw [z]; exact nit b u e
  ·exact nit c _ z
theorem Inv.tok (I : Inv X pins σ H s) (t : Nat) : Inv X pins σ H { s with toks := t } := I.un (h' := s.heap) (t' := t) Un.refl I.hok
theorem Inv.kept {t' : Nat} (I : Inv X pins σ H s) (k : ∀ b u, s.heap.get? b = some u -> h'.get? b = some u) : Inv X pins σ H { s with heap := h', toks := t' } := I.un (Un.kept k) (I.hok.kept k)
theorem Inv.laid {a : Addr} {o : HO} {t' : Nat} (I : Inv X pins σ H s) (k : ∀ b u, s.heap.get? b = some u -> h'.get? b = some u) (hp : s.heap.objs.size <= a) (new : gD X.prog X.w (upd H a o) h' a o) :
  Inv X pins σ (upd H a o) { s with heap := h', toks := t' } := I.un (Un.laid k hp (I.hok.fresh hp)) (I.hok.laid k hp new)
theorem Inv.write {x e : Addr} {o : HO} {t' : Nat} (I : Inv X pins σ H s) (mu : Mut (H x)) (he : e = x \/ H e = some (.own x)) (k : ∀ b u, b ≠ e -> s.heap.get? b = some u -> h'.get? b = some u) (heo : ∃ u, h'.get? e = some u)
  (new : gD X.prog X.w (upd H x o) h' x o) : Inv X pins σ (upd H x o) { s with heap := h', toks := t' } := I.un (Un.write mu he k heo) (I.hok.write mu he k heo new)
theorem Inv.pins_of {pins' : List (Addr × Obj)} (I : Inv X pins σ H s) (h : ∀ p ∈ pins', s.heap.get? p.1 = some p.2 /\ H p.1 = none /\ p.1 ≠ X.env.locals /\ p.1 ∉ X.fs /\ ∀ v, p.2.data ≠ .cell v) : Inv X pins' σ H s :=
 ⟨I.ok, I.os, I.bare, I.base, I.loc, I.cell, I.free, I.freeC, fun p hp => (List.mem_append.mp hp).elim (fun z => I.pin p (List.mem_append_left _ z)) (h p), I.hok, I.len⟩
theorem aCh {N : List Str} (hN : N.Nodup) {i j : Nat} {x : Str} (a : N[i]? = some x) (b : N[j]? = some x) : i = j := by
 obtain ⟨h1, e1⟩ := List.getElem?_eq_some_iff.mp a
 obtain ⟨h2, e2⟩ := List.getElem?_eq_some_iff.mp b
 exact (List.getElem_inj hN).mp (e1.trans e2.symm)
theorem zP {M : Model} {A : Around} {E : Value -> Shared -> Prop} {i : Nat} {x : Str} {v : V} {u : Value} {Q : Unit -> Shared -> Prop} (I : Inv X pins σ H s) (hN : X.N.Nodup) (hi : X.N[i]? = some x) (hx : Loc X.env.scope x) (r : RelV v u)
  (h : ∀ s', Inv X pins (σ.set i (some v)) H s' -> (∃ a, Heap.SameBut a s.heap s'.heap /\ (a = X.env.locals \/ X.env.cells.lookup x = some a)) -> Q () s') (hf : X.fn x = true \/ X.env.scope.names.lookup x = some .local := by first | exact .inl rfl | exact .inr rfl | assumption) : wpAny M A (storeName X.env x u) Q E s := by
 obtain ⟨m, hn, hl⟩ := id I.loc
 have hcls : (X.env.scope.kind == .class || (X.env.scope.kind == .module && X.env.locals != X.env.globals)) = false := by rw [I.ok.kind]; rfl
 have hiσ : i < σ.length := by rw [I.len]; exact (List.getElem?_eq_some_iff.mp hi).1
 have cne := I.cne
 have tracked : ∀ {a : Addr} {h' : Heap}, (∃ o, s.heap.get? a = some o /\ H a = none) -> Heap.SameBut a s.heap h' -> HOk X.prog X.w H h' := fun {a h'} ha hs b ob e => by
  obtain ⟨_, _, hfree⟩ := ha
  refine (I.hok b ob e).stay (fun c w' hc q => (hs.2 c ?_).trans q) (fun _ q => q) fun _ _ q => q
  rintro rfl
  rcases hc with rfl | hc
  ·rw [hfree] at e; cases e
  ·rw [hfree] at hc; cases hc
 rcases hx with hk | hk
 ·refine wpAny_storeName_local hk hn (fun h' hn' hs => ?_) hcls
  obtain ⟨oL, _, _, hoL, _⟩ := id hn
  refine h _ ⟨I.ok, I.os, I.bare, ⟨fun b o e n hb hx => ?_, fun b o e n hb hx => ?_, I.base.free, fun b o e hx => ?_, I.base.tups, I.base.frzs, I.base.tbls⟩, ⟨_, hn', fun j y v' e1 e2 e3 => ?_⟩, fun y c e => ?_, I.free, I.freeC, fun p hp => ?_, tracked ⟨oL, hoL, I.free⟩ hs, by simpa using I.len⟩ ⟨_, hs, .inl rfl⟩
  ·exact (hs.2 b (Nat.ne_of_lt (Nat.lt_of_lt_of_le (Heap.lt_size e) I.ok.above))).trans (I.base.keep b o e n hb hx)
  ·obtain ⟨sl, e1⟩ := I.base.slot b o e n hb hx
   exact ⟨sl, (hs.2 b (Nat.ne_of_lt (Nat.lt_of_lt_of_le (Heap.lt_size e) I.ok.above))).trans e1⟩
  ·obtain ⟨o', e1⟩ := I.base.there b o e hx
   exact ⟨o', (hs.2 b (Nat.ne_of_lt (Nat.lt_of_lt_of_le (Heap.lt_size e) I.ok.above))).trans e1⟩
  ·by_cases hj : j = i
   ·subst hj
    rw [hi] at e1; cases e1
    rw [List.getElem?_set_self hiσ] at e2
    cases e2
    exact ⟨u, r, .inl ⟨hk, by simp⟩⟩
   ·rw [List.getElem?_set_ne (Ne.symm hj)] at e2
    obtain ⟨u', r', q⟩ := hl j y v' e1 e2 e3
    refine ⟨u', r', ?_⟩
    rcases q with ⟨k, e⟩ | ⟨k, c, e, z⟩
    ·refine .inl ⟨k, ?_⟩
     have : y ≠ x := fun e => hj (aCh hN e1 (e ▸ hi))
     simp [this, e]
    ·exact .inr ⟨k, c, e, z.sameBut hs (cne y c e)⟩
  ·obtain ⟨w', z⟩ := I.cell y c e
   exact ⟨w', z.sameBut hs (cne y c e)⟩
  ·obtain ⟨e, n, ne, nf, d⟩ := I.pin p hp
   exact ⟨(hs.2 p.1 ne).trans e, n, ne, nf, d⟩
 ·have hfn : X.fn x = true := by
   rcases hf with z | z
   ·exact z
   ·rw [z] at hk; cases hk
  obtain ⟨c, hc⟩ := I.ok.has x (.inl hk)
  obtain ⟨w', z⟩ := I.cell x c hc
  refine wpAny_storeName_cell I.ok.kind hk hc z (fun h' hc' hs => ?_)
  obtain ⟨oc, hoc, hocd⟩ := id z
  refine h { s with heap := h' } ⟨I.ok, I.os, I.bare, ⟨fun b o e n hb hx => ?_, fun b o e n hb hx => ?_, I.base.free, fun b o e hx => ?_, I.base.tups, I.base.frzs, I.base.tbls⟩, ⟨m, hn.sameBut hs (Ne.symm (cne x c hc)), fun j y v' e1 e2 e3 => ?_⟩, fun y c' e => ?_, I.free, I.freeC, fun p hp => ?_, tracked ⟨oc, hoc, I.freeC x c hc⟩ hs, by simpa using I.len⟩ ⟨c, hs, .inr hc⟩
  ·exact (hs.2 b (Nat.ne_of_lt (Nat.lt_of_lt_of_le (Heap.lt_size e) (I.ok.cab x c hfn hc)))).trans (I.base.keep b o e n hb hx)
  ·obtain ⟨sl, e1⟩ := I.base.slot b o e n hb hx
   exact ⟨sl, (hs.2 b (Nat.ne_of_lt (Nat.lt_of_lt_of_le (Heap.lt_size e) (I.ok.cab x c hfn hc)))).trans e1⟩
  ·obtain ⟨o', e1⟩ := I.base.there b o e hx
   exact ⟨o', (hs.2 b (Nat.ne_of_lt (Nat.lt_of_lt_of_le (Heap.lt_size e) (I.ok.cab x c hfn hc)))).trans e1⟩
  ·by_cases hj : j = i
   ·subst hj
    rw [hi] at e1; cases e1
    rw [List.getElem?_set_self hiσ] at e2
    cases e2
    exact ⟨u, r, .inr ⟨.inl hk, c, hc, hc'⟩⟩
   ·rw [List.getElem?_set_ne (Ne.symm hj)] at e2
    obtain ⟨u', r', q⟩ := hl j y v' e1 e2 e3
    refine ⟨u', r', ?_⟩
    rcases q with q | ⟨k, c', e, z'⟩
    ·exact .inl q
    ·refine .inr ⟨k, c', e, z'.sameBut hs ?_⟩
     rintro rfl
     exact hj (aCh hN e1 (I.ok.inj _ _ _ e hc ▸ hi))
  ·by_cases hcc : c' = c
   ·subst hcc; exact ⟨_, hc'⟩
   ·obtain ⟨w2, z2⟩ := I.cell y c' e
    exact ⟨w2, z2.sameBut hs hcc⟩
  ·obtain ⟨e, n, ne, nf, d⟩ := I.pin p hp
   refine ⟨(hs.2 p.1 ?_).trans e, n, ne, nf, d⟩
   intro q
   rw [q, hoc] at e
   have q' : oc = p.2 := Option.some.inj e
   exact d w' (by rw [<- q']; exact hocd)
theorem aCi {M : Model} {A : Around} {E : Value -> Shared -> Prop} {i : Nat} {x : Str} {v : V} {u : Value} {Q : Unit -> Shared -> Prop} (I : Inv X pins σ H s) (hN : X.N.Nodup) (hi : X.N[i]? = some x) (hx : Loc X.env.scope x) (r : RelV v u)
  (h : ∀ s', Inv X pins (σ.set i (some v)) H s' -> Q () s') (hf : X.fn x = true \/ X.env.scope.names.lookup x = some .local := by first | exact .inl rfl | exact .inr rfl | assumption) : wpAny M A (storeName X.env x u) Q E s :=
 zP I hN hi hx r (fun s' I' _ => h s' I') hf
theorem Inv.call' {s' : Shared} {ch : List Addr} (I : Inv X pins σ H s) (ho : s'.os = s.os) (u : Un (frs X.stack) ch H H' s.heap s'.heap) (hok : HOk X.prog X.w H' s'.heap) (hg : AllBare s'.gens)
  (hch : ∀ b ∈ ch, (b ∈ X.ex \/ X.s₀.heap.objs.size <= b) /\ b ≠ X.env.locals /\ (∀ x c, X.env.cells.lookup x = some c -> c ≠ b) /\ ∀ p ∈ X.pn ++ pins, p.1 ≠ b) : Inv X pins σ H' s' := by
 obtain ⟨h', g', d', t', o'⟩ := s'
 have e : o' = s.os := ho
 subst e
 exact I.call (g' := g') (t' := t') (d' := d') u hok hg hch
end
abbrev XK := Value -> Option Addr -> Hp -> Prop
abbrev St := List (Option V)
abbrev VK := V -> Hp -> Prop
abbrev TE := St -> Hp -> VK -> Prop
abbrev TT := St -> Hp -> (Bool -> Hp -> Prop) -> Prop
abbrev TA := St -> Hp -> (List V -> Hp -> Prop) -> Prop
structure Ends where
 nx : St -> Hp -> Prop
 rt : VK
 bk : St -> Hp -> Prop := fun _ _ => False
 ct : St -> Hp -> Prop := fun _ _ => False
abbrev TS := Ends -> St -> Hp -> Prop
def EP (X : Cx) (pins : List (Addr × Obj)) (σ : St) (Q : VK) (u : Value) (s' : Shared) : Prop := ∃ v H', Inv X pins σ H' s' /\ RelV v u /\ Q v H'
def TP (X : Cx) (pins : List (Addr × Obj)) (σ : St) (Q : Bool -> Hp -> Prop) (b : Bool) (s' : Shared) : Prop := ∃ H', Inv X pins σ H' s' /\ Q b H'
def AP (X : Cx) (pins : List (Addr × Obj)) (σ : St) (Q : List V -> Hp -> Prop) (us : List Value) (s' : Shared) : Prop := ∃ vs H', Inv X pins σ H' s' /\ Vals vs us /\ Q vs H'
def SP (X : Cx) (pins : List (Addr × Obj)) (D : Ends) (f : Flow) (s' : Shared) : Prop :=
 match f with
 | .next => ∃ σ' H', Inv X pins σ' H' s' /\ D.nx σ' H'
 | .brk => ∃ σ' H', Inv X pins σ' H' s' /\ D.bk σ' H'
 | .cont => ∃ σ' H', Inv X pins σ' H' s' /\ D.ct σ' H'
 | .ret u => ∃ v σ' H', Inv X pins σ' H' s' /\ RelV v u /\ D.rt v H'
def PE (X : Cx) (e : Expr) (t : TE) : Prop :=
 ∀ (pins : List (Addr × Obj)) (s : Shared) (σ : St) (H : Hp) (Q : VK), Inv X pins σ H s -> t σ H Q -> wpAny (model X.prog X.w) X.A (eval e X.env) (EP X pins σ Q) X.xe s
def PT (X : Cx) (e : Expr) (t : TT) : Prop :=
 ∀ (pins : List (Addr × Obj)) (s : Shared) (σ : St) (H : Hp) (Q : Bool -> Hp -> Prop), Inv X pins σ H s -> t σ H Q -> wpAny (model X.prog X.w) X.A (isTrue e X.env (eval e X.env)) (TP X pins σ Q) X.xe s
def PW (X : Cx) (e : Expr) (t : TT) : Prop :=
 ∀ (whole : Sem Value) (pins : List (Addr × Obj)) (s : Shared) (σ : St) (H : Hp) (Q : Bool -> Hp -> Prop), Inv X pins σ H s -> t σ H Q -> wpAny (model X.prog X.w) X.A (isTrue e X.env whole) (TP X pins σ Q) X.xe s
theorem PW.pt {X : Cx} {e : Expr} {t : TT} (h : PW X e t) : PT X e t := h _
def PA (X : Cx) (es : List Expr) (t : TA) : Prop :=
 ∀ (pos : Pos) (pins : List (Addr × Obj)) (s : Shared) (σ : St) (H : Hp) (Q : List V -> Hp -> Prop), Inv X pins σ H s -> t σ H Q -> wpAny (model X.prog X.w) X.A (spliced (backTo pos (starEach es X.env))) (AP X pins σ Q) X.xe s
def PS (X : Cx) (st : Stmt) (t : TS) : Prop :=
 ∀ (pins : List (Addr × Obj)) (s : Shared) (σ : St) (H : Hp) (D : Ends), Inv X pins σ H s -> t D σ H -> wpAny (model X.prog X.w) X.A (exec st X.env) (SP X pins D) X.xe s
def PSs (X : Cx) (st : List Stmt) (t : TS) : Prop :=
 ∀ (pins : List (Addr × Obj)) (s : Shared) (σ : St) (H : Hp) (D : Ends), Inv X pins σ H s -> t D σ H -> wpAny (model X.prog X.w) X.A (execs st X.env) (SP X pins D) X.xe s
theorem thn {α : Type} {t : Sem α} {Q Q' : α -> Shared -> Prop} {M : Model} {A : Around} {E : Value -> Shared -> Prop} {s : Shared} (h : wpAny M A t Q E s) (hQ : ∀ a s, Q a s -> Q' a s) : wpAny M A t Q' E s := wpAny_mono h hQ fun _ _ x => x
end L2
namespace L2
open PySem PySem.Spec PyProof.Rows
section
variable {X : Cx}
def aWd (i : Nat) : TE := fun σ H Q => ∃ v, σ[i]? = some (some v) /\ Q v H
def tC (v : V) : TE := fun _ H Q => Q v H
theorem oU {i : Nat} {x : Str} {pos : Pos} (hN : X.N[i]? = some x) (hv : Vis X.env.scope x) (hd : (x == ("__debug__" : Str)) = false := by decide) (hcd : (x == ("__classdict__" : Str)) = false := by decide) : PE X (.Name x pos) (aWd i) := by
 intro pins s σ H Q I h
 obtain ⟨v, e, h⟩ := h
 obtain ⟨m, hn, hl⟩ := I.loc
 obtain ⟨u, r, l⟩ := hl i x v hN e hv
 have fin : EP X pins σ Q u s := ⟨v, H, I, r, h⟩
 rcases l with ⟨hk, hm⟩ | ⟨hk, c, hc, hcell⟩
 ·exact wpAny_Name (wpAny_loadName_local I.ok.kind hk hn hm fin) hd
 ·rcases hk with hk | hk
  ·exact wpAny_Name (wpAny_loadName_cell I.ok.kind hk hc hcell fin) hd
  ·exact wpAny_Name (wpAny_loadName_free I.ok.kind hk hc hcell fin hcd) hd
theorem aP3 {i j pos} : PE X (.Constant (.int i) j pos) (tC (.int i)) := fun _ _ _ H _ I h => wpAny_Constant_int ⟨.int i, H, I.tok _, ⟨_, rfl⟩, h⟩
theorem aSl {b j pos} : PE X (.Constant (.bool b) j pos) (tC (.bl b)) := fun _ _ _ H _ I h => Constant_bool ⟨.bl b, H, I, rfl, h⟩
theorem aP4 {x j pos} : PE X (.Constant (.str x) j pos) (tC (.str x)) := fun _ _ _ H _ I h => Calls.Constant_str ⟨.str x, H, I.tok _, ⟨_, rfl⟩, h⟩
def Gl (X : Cx) (x : Str) : Prop := X.env.kindOf x = some .globalImplicit
theorem wJ {E : Value -> Shared -> Prop} {pins : List (Addr × Obj)} {s : Shared} {σ : St} {H : Hp} {x : Str} {u : Value} {pos : Pos} {Q : Value -> Shared -> Prop} (I : Inv X pins σ H s) (hg : Gl X x) (hm : X.mg x = some u) (h : Q u s)
  (hd : (x == ("__debug__" : Str)) = false := by decide) : wpAny (model X.prog X.w) X.A (eval (.Name x pos) X.env) Q E s :=
 Calls.Name_function_global I.ok.kind hg (Calls.loadGlobal_global (by rw [I.ok.glob]; exact I.mod.glob.keeps I.bk) hm h) hd
theorem rB {E : Value -> Shared -> Prop} {pins : List (Addr × Obj)} {s : Shared} {σ : St} {H : Hp} {x : Str} {u : Value} {pos : Pos} {Q : Value -> Shared -> Prop} (I : Inv X pins σ H s) (hg : Gl X x) (hm : X.mg x = none) (hv : bootBuiltins x = some u) (h : Q u s)
  (hn : x ≠ "__name__" := by decide) (hd : (x == ("__debug__" : Str)) = false := by decide) : wpAny (model X.prog X.w) X.A (eval (.Name x pos) X.env) Q E s := by
 obtain ⟨mb, h1, h2⟩ := I.mod.blt
 exact Calls.Name_function_global I.ok.kind hg (Calls.loadGlobal_builtin (by rw [I.ok.glob]; exact I.mod.glob.keeps I.bk) hm (by rw [I.ok.blt]; exact h1.keeps I.bk) ((h2 x hn).trans hv) h) hd
theorem aFf {x : Str} {v : V} {u : Value} {pos : Pos} (hg : Gl X x) (hm : X.mg x = some u) (r : RelV v u) (hd : (x == ("__debug__" : Str)) = false := by decide) : PE X (.Name x pos) (tC v) :=
 fun _ _ _ H _ I h => wJ I hg hm ⟨v, H, I, r, h⟩ hd
theorem aLn {x : Str} {v : V} {u : Value} {pos : Pos} (hg : Gl X x) (hm : X.mg x = none) (hv : bootBuiltins x = some u) (r : RelV v u) (hn : x ≠ "__name__" := by decide) (hd : (x == ("__debug__" : Str)) = false := by decide) : PE X (.Name x pos) (tC v) :=
 fun _ _ _ H _ I h => rB I hg hm hv ⟨v, H, I, r, h⟩ hn hd
variable {a b : Expr} {ta tb : TE} {pos : Pos}
def tB (t : TE) : TT := fun σ H Q => t σ H fun x H1 => ∃ c, x = .bl c /\ Q c H1
theorem aP5 {e : Expr} {t : TE} (h : PE X e t) (he : ∀ whole, isTrue e X.env whole = (do let v <- whole; standAt e.pos; holding [v] (truthy v)) := by intro _; rfl) : PT X e (tB t) := by
 intro pins s σ H Q I hw
 refine isTrue_plain (thn (h pins s σ H _ I hw) fun v s1 ⟨x, H1, I1, r1, q1⟩ => ?_) (he _)
 obtain ⟨d, rfl, q⟩ := q1
 cases r1
 exact wpAny_truthy_bool ⟨H1, I1, q⟩
variable {tA tB' : TT} {rest : List Expr}
def aWe (t u : TT) : TT := fun σ H Q => t σ H fun c H1 => if c = true then u σ H1 Q else Q false H1
def tOr (t u : TT) : TT := fun σ H Q => t σ H fun c H1 => if c = true then Q true H1 else u σ H1 Q
def aWf (t : TT) : TT := fun σ H Q => t σ H fun c H1 => Q (!c) H1
theorem aLo (ha : PT X a tA) : PW X (.BoolOp .And [a] pos) tA := by
 intro wh pins s σ H Q I h
 refine isTrue_and (thn (ha pins s σ H Q I h) fun c s1 e => ?_)
 cases c with
 | true => exact isTrue_and_nil e
 | false => exact e
theorem aP6 (ha : PT X a tA) : PW X (.BoolOp .Or [a] pos) tA := by
 intro wh pins s σ H Q I h
 refine isTrue_or (thn (ha pins s σ H Q I h) fun c s1 e => ?_)
 cases c with
 | false => exact isTrue_or_nil e
 | true => exact e
theorem aP7 (ha : PT X a tA) (hb : PW X (.BoolOp .And (b :: rest) pos) tB') : PW X (.BoolOp .And (a :: b :: rest) pos) (aWe tA tB') := by
 intro wh pins s σ H Q I h
 refine isTrue_and (thn (ha pins s σ H _ I h) fun c s1 ⟨H1, I1, q1⟩ => ?_)
 cases c with
 | true => exact hb wh pins s1 σ H1 Q I1 q1
 | false => exact ⟨H1, I1, q1⟩
theorem aSm (ha : PT X a tA) (hb : PW X (.BoolOp .Or (b :: rest) pos) tB') : PW X (.BoolOp .Or (a :: b :: rest) pos) (tOr tA tB') := by
 intro wh pins s σ H Q I h
 refine isTrue_or (thn (ha pins s σ H _ I h) fun c s1 ⟨H1, I1, q1⟩ => ?_)
 cases c with
 | true => exact ⟨H1, I1, q1⟩
 | false => exact hb wh pins s1 σ H1 Q I1 q1
theorem aP8 (ha : PT X a tA) : PT X (.UnaryOp .Not a pos) (aWf tA) := by
 intro pins s σ H Q I h
 exact isTrue_not (ha pins s σ H (fun c H1 => Q (!c) H1) I h)
def aSn (ta tb : TE) : TE := fun σ H Q => ta σ H fun x H1 => ∃ c, x = .bl c /\ if c = true then tb σ H1 Q else Q (.bl false) H1
def aSo (ta : TE) : TE := fun σ H Q => ta σ H fun x H1 => ∃ c, x = .bl c /\ Q (.bl (!c)) H1
theorem aP9 {op} {t : TE} (h : PE X a t) : PE X (.BoolOp op [a] pos) t := fun pins s σ H Q I hw => BoolOp_one (h pins s σ H Q I hw)
theorem aPa (ha : PE X a ta) (hb : PE X (.BoolOp .And (b :: rest) pos) tb) : PE X (.BoolOp .And (a :: b :: rest) pos) (aSn ta tb) := by
 intro pins s σ H Q I h
 refine BoolOp_and (thn (ha pins s σ H _ I h) fun v s1 ⟨x, H1, I1, r1, q1⟩ => ?_)
 obtain ⟨c, rfl, q1⟩ := q1
 cases r1
 refine wpAny_truthy_bool ?_
 cases c with
 | true => exact hb pins s1 σ H1 Q I1 q1
 | false => exact ⟨.bl false, H1, I1, rfl, q1⟩
theorem aPb (ha : PE X a ta) : PE X (.UnaryOp .Not a pos) (aSo ta) := by
 intro pins s σ H Q I h
 refine UnaryOp_ (thn (ha pins s σ H _ I h) fun v s1 ⟨x, H1, I1, r1, q1⟩ => ?_)
 obtain ⟨c, rfl, q1⟩ := q1
 cases r1
 exact not_of (wpAny_truthy_bool ⟨.bl (!c), H1, I1, rfl, q1⟩)
end
end L2
namespace L2
open PySem PySem.Spec PyProof.Rows
def SqL (K : PySem.W.Frag) (H : Hp) (a : Addr) (xs : List V) : Prop :=
 Rd H a (.lst xs) \/
  ∃ (o : Obj) (its : Array Value) (n : Nat), K.lookup a = some o /\ o.cls = .type "list" /\ o.dict = none /\ o.data = .seq its n /\ its.size <= sizeLine /\ Vals xs its.toList
def SqT (K : PySem.W.Frag) (H : Hp) (a : Addr) (xs : List V) : Prop :=
 Rd H a (.tup xs) \/
  ∃ (o : Obj) (its : Array Value) (n : Nat), K.lookup a = some o /\ o.cls = .type "tuple" /\ o.data = .seq its n /\ its.size <= sizeLine /\ Vals xs its.toList
def aWg : Value -> Option V
 | .none => some .non
 | .bool b => some (.bl b)
 | .int i _ => some (.int i)
 | .str x _ => some (.str x)
 | .bytes b _ => some (.byt b)
 | .float b _ => some (.flt b)
 | .ref a => some (.ref a)
 | .type n => some (.ty n)
 | _ => none
theorem RelV.abs {x : V} {u : Value} (r : RelV x u) : aWg u = some x := by
 cases x with
 | non => cases r; rfl
 | bl _ => cases r; rfl
 | int _ => obtain ⟨t, rfl⟩ := r; rfl
 | str _ => obtain ⟨t, rfl⟩ := r; rfl
 | byt _ => obtain ⟨t, rfl⟩ := r; rfl
 | flt _ => obtain ⟨t, rfl⟩ := r; rfl
 | ref _ => cases r; rfl
 | ty _ => cases r; rfl
theorem RelV.inj {x y : V} {u : Value} (r : RelV x u) (q : RelV y u) : x = y := Option.some.inj (r.abs.symm.trans q.abs)
theorem Vals.inj : ∀ {xs ys : List V} {us : List Value}, Vals xs us -> Vals ys us -> xs = ys
 | _, _, _, .nil, .nil => rfl
 | _, _, _, .cons r t, .cons r' t' => by rw [r.inj r', Vals.inj t t']
section
variable {X : Cx} {pins : List (Addr × Obj)} {σ : St} {H : Hp} {s : Shared} {a : Addr} {xs ys : List V}
theorem SqL.of {K : PySem.W.Frag} (h : H a = some (.lst xs)) : SqL K H a xs := .inl (.inl h)
theorem SqT.of {K : PySem.W.Frag} (h : H a = some (.tup xs)) : SqT K H a xs := .inl (.inl h)
theorem Inv.list (I : Inv X pins σ H s) (h : SqL X.K H a xs) : ∃ its : List Value, Vals xs its /\ PlainL s.heap a its.toArray /\ xs.length <= sizeLine := by
 rcases h with h | ⟨o, its, n, hk, hc, hd, hs, hz, r⟩
 ·obtain ⟨z, its, n, r, e⟩ := h.ok I.hok
  exact ⟨its, r, ⟨_, n, e, rfl, rfl, rfl⟩, z⟩
 ·refine ⟨its.toList, r, ⟨o, n, I.kIn a o hk, hc, hd, by simpa using hs⟩, ?_⟩
  have e := r.length
  simp only [Array.length_toList] at e
  omega
theorem Inv.tuple (I : Inv X pins σ H s) (h : SqT X.K H a xs) : ∃ its : List Value, Vals xs its /\ IsTup s.heap a its.toArray /\ xs.length <= sizeLine := by
 rcases h with h | ⟨o, its, n, hk, hc, hs, hz, r⟩
 ·obtain ⟨z, its, r, p⟩ := h.ok I.hok
  exact ⟨its, r, p, z⟩
 ·refine ⟨its.toList, r, ⟨o, I.kIn a o hk, hc, n, by simpa using hs⟩, ?_⟩
  have e := r.length
  simp only [Array.length_toList] at e
  omega
theorem Inv.list_inj (I : Inv X pins σ H s) (h : SqL X.K H a xs) (h' : SqL X.K H a ys) : xs = ys := by
 obtain ⟨its, r, ⟨o, n, e, _, _, d⟩, _⟩ := I.list h
 obtain ⟨its', r', ⟨o', n', e', _, _, d'⟩, _⟩ := I.list h'
 rw [e] at e'; cases e'
 rw [d] at d'
 injection d' with d1 _
 have : its = its' := by simpa using congrArg Array.toList d1
 subst this
 exact r.inj r'
theorem Inv.tuple_inj (I : Inv X pins σ H s) (h : SqT X.K H a xs) (h' : SqT X.K H a ys) : xs = ys := by
 obtain ⟨its, r, ⟨o, e, _, n, d⟩, _⟩ := I.tuple h
 obtain ⟨its', r', ⟨o', e', _, n', d'⟩, _⟩ := I.tuple h'
 rw [e] at e'; cases e'
 rw [d] at d'
 injection d' with d1 _
 have : its = its' := by simpa using congrArg Array.toList d1
 subst this
 exact r.inj r'
end
abbrev Cx.wish (X : Cx) (E : Value -> Shared -> Prop) : Cx := { X with xe := E }
abbrev Cx.nox (X : Cx) : Cx := X.wish fun _ _ => False
theorem Cx.Ok.wish {X : Cx} (ok : X.Ok) (E : Value -> Shared -> Prop) : (X.wish E).Ok :=
 ⟨ok.mod, ok.kind, ok.glob, ok.blt, ok.above, ok.inj, ok.has, ok.cab, ok.hd, ok.frames, ok.stk, ok.exf, ok.bs, ok.bsz, ok.noex, ok.exfs, ok.funs, ok.frf⟩
theorem Cx.Ok.unwish {X : Cx} {E : Value -> Shared -> Prop} (ok : (X.wish E).Ok) : X.Ok :=
 ⟨ok.mod, ok.kind, ok.glob, ok.blt, ok.above, ok.inj, ok.has, ok.cab, ok.hd, ok.frames, ok.stk, ok.exf, ok.bs, ok.bsz, ok.noex, ok.exfs, ok.funs, ok.frf⟩
section
variable {X : Cx} {pins : List (Addr × Obj)} {σ : St} {H : Hp} {s : Shared} {E : Value -> Shared -> Prop}
theorem Inv.wish (I : Inv X pins σ H s) (E : Value -> Shared -> Prop) : Inv (X.wish E) pins σ H s := ⟨I.ok.wish E, I.os, I.bare, I.base, I.loc, I.cell, I.free, I.freeC, I.pin, I.hok, I.len⟩
theorem Inv.unwish (I : Inv (X.wish E) pins σ H s) : Inv X pins σ H s := ⟨I.ok.unwish, I.os, I.bare, I.base, I.loc, I.cell, I.free, I.freeC, I.pin, I.hok, I.len⟩
theorem SP.unwish {D : Ends} {f : Flow} {s' : Shared} (h : SP (X.wish E) pins D f s') : SP X pins D f s' := by
 cases f with
 | next => obtain ⟨σ', H', I, q⟩ := h; exact ⟨σ', H', I.unwish, q⟩
 | brk => obtain ⟨σ', H', I, q⟩ := h; exact ⟨σ', H', I.unwish, q⟩
 | cont => obtain ⟨σ', H', I, q⟩ := h; exact ⟨σ', H', I.unwish, q⟩
 | ret u => obtain ⟨v, σ', H', I, r, q⟩ := h; exact ⟨v, σ', H', I.unwish, r, q⟩
theorem PSs.nox {st : List Stmt} {t : TS} (h : PSs X.nox st t) : PSs X st t := fun pins s σ H D I hw =>
 wpAny_mono (h pins s σ H D (I.wish _) hw) (fun _ _ q => q.unwish) fun _ _ z => False.elim z
end
section
variable {X : Cx} {st : Stmt} {rest : List Stmt} {t u : TS} {e : Expr} {te : TE} {pos : Pos}
def aSp : TS := fun D σ H => D.nx σ H
def aWh (t u : TS) : TS := fun D σ H => t { D with nx := u D } σ H
theorem aFg : PSs X [] aSp := fun _ _ σ H _ I h => wpAny_execs_nil ⟨σ, H, I, h⟩
theorem rW (h1 : PS X st t) (h2 : PSs X rest u) : PSs X (st :: rest) (aWh t u) := by
 intro pins s σ H D I h
 refine wpAny_execs_cons (thn (h1 pins s σ H { D with nx := u D } I h) fun f s1 q => ?_)
 cases f with
 | next =>
  obtain ⟨σ', H', I', q⟩ := q
  exact h2 pins s1 σ' H' D I' q
 | ret v => exact q
 | brk => exact q
 | cont => exact q
theorem wK (h1 : PS X st t) : PSs X [st] t := by
 intro pins s σ H D I h
 refine wpAny_execs_cons (thn (h1 pins s σ H D I h) fun f s1 q => ?_)
 cases f with
 | next => exact wpAny_execs_nil q
 | ret v => exact q
 | brk => exact q
 | cont => exact q
theorem Inv.quiet {pins : List (Addr × Obj)} {σ : St} {H : Hp} {s : Shared} (I : Inv X pins σ H s) : interactive X.env = false := by simp [interactive, I.ok.kind]
def aSq (te : TE) : TS := fun D σ H => te σ H fun _ H1 => D.nx σ H1
theorem wL (he : PE X e te) (hs : swapsWith e none pos.line X.env = pure false := by rfl) : PS X (.Expr e pos) (aSq te) := by
 intro pins s σ H D I h
 exact wpAny_Expr_any (thn (he pins s σ H _ I h) fun v s1 ⟨x, H1, I1, r1, q1⟩ => ⟨σ, H1, I1, q1⟩) I.quiet hs
def aWi (te : TE) : TS := fun D σ H => te σ H D.rt
theorem aE5 (he : PE X e te) : PS X (.Return (some e) pos) (aWi te) := by
 intro pins s σ H D I h
 exact wpAny_Return_some (thn (he pins s σ H _ I h) fun v s1 ⟨x, H1, I1, r1, q1⟩ => ⟨x, σ, H1, I1, r1, q1⟩)
def aWj (c : TT) (t u : TS) : TS := fun D σ H => c σ H fun b H1 => if b = true then t D σ H1 else u D σ H1
theorem aNy {c : Expr} {a b : List Stmt} {tc : TT} (hc : PT X c tc) (ha : PSs X a t) (hb : PSs X b u) : PS X (.If c a b pos) (aWj tc t u) := by
 intro pins s σ H D I h
 refine wpAny_If (thn (hc pins s σ H _ I h) fun d s1 ⟨H1, I1, q1⟩ => ?_)
 cases d with
 | true => exact ha pins s1 σ H1 D I1 q1
 | false => exact hb pins s1 σ H1 D I1 q1
end
abbrev TG := V -> St -> Hp -> (St -> Hp -> Prop) -> Prop
abbrev TGs := List V -> St -> Hp -> (St -> Hp -> Prop) -> Prop
def PG (X : Cx) (target : Expr) (t : TG) : Prop :=
 ∀ (pins : List (Addr × Obj)) (s : Shared) (σ : St) (H : Hp) (v : V) (u : Value) (Q : St -> Hp -> Prop), Inv X pins σ H s -> RelV v u -> t v σ H Q ->
  wpAny (model X.prog X.w) X.A (assign target X.env u) (fun _ s' => ∃ σ' H', Inv X pins σ' H' s' /\ Q σ' H') X.xe s
def PGs (X : Cx) (ts : List Expr) (t : TGs) : Prop :=
 ∀ (pins : List (Addr × Obj)) (s : Shared) (σ : St) (H : Hp) (vs : List V) (us : List Value) (Q : St -> Hp -> Prop), Inv X pins σ H s -> Vals vs us -> t vs σ H Q ->
  wpAny (model X.prog X.w) X.A (assignInOrder ((assignEach ts X.env).map (·.2)) us) (fun _ s' => ∃ σ' H', Inv X pins σ' H' s' /\ Q σ' H') X.xe s
abbrev aPc := V -> V -> V -> Hp -> (Hp -> Prop) -> Prop
def aSr (X : Cx) (t : aPc) : Prop :=
 ∀ (pins : List (Addr × Obj)) (s : Shared) (σ : St) (H : Hp) (o i v : V) (ov iv u : Value) (Q : Hp -> Prop), Inv X pins σ H s -> RelV o ov -> RelV i iv -> RelV v u -> t o i v H Q ->
  wpAny (model X.prog X.w) X.A (setItem ov iv u) (fun _ s' => ∃ H', Inv X pins σ H' s' /\ Q H') X.xe s
section
variable {X : Cx} {pos : Pos}
def aNz (i : Nat) : TG := fun v σ H Q => Q (σ.set i (some v)) H
theorem aLp {i : Nat} {x : Str} (hN : X.N.Nodup) (hi : X.N[i]? = some x) (hx : Loc X.env.scope x) (hf : X.fn x = true \/ X.env.scope.names.lookup x = some .local := by first | exact .inl rfl | exact .inr rfl | assumption) : PG X (.Name x pos) (aNz i) := by
 intro pins s σ H v u Q I r h
 exact wpAny_assign_Name (aCi I hN hi hx r (fun s' I' => ⟨_, H, I', h⟩) hf)
def aWk : TGs := fun vs σ H Q => vs = [] /\ Q σ H
def aSs (t : TG) (u : TGs) : TGs := fun vs σ H Q => ∃ v r, vs = v :: r /\ t v σ H fun σ' H' => u r σ' H' Q
theorem aLq : PGs X [] aWk := by
 intro pins s σ H vs us Q I r h
 obtain ⟨e, h⟩ := h
 subst e
 cases r
 exact assignInOrder_nil ⟨σ, H, I, h⟩
theorem aIn {e : Expr} {es : List Expr} {t : TG} {u : TGs} (h1 : PG X e t) (h2 : PGs X es u)
  (hs : (assignEach (e :: es) X.env).map (·.2) = assign e X.env :: (assignEach es X.env).map (·.2) := by rfl) : PGs X (e :: es) (aSs t u) := by
 intro pins s σ H vs us Q I r h
 obtain ⟨v, vr, e1, h⟩ := h
 subst e1
 cases r with
 | cons r rr =>
  rw [hs]
  refine assignInOrder_cons (thn (h1 pins s σ H _ _ _ I r h) fun _ s1 ⟨σ1, H1, I1, q1⟩ => ?_)
  exact h2 pins s1 σ1 H1 _ _ Q I1 rr q1
def aWl (K : PySem.W.Frag) (n : Nat) (t : TGs) : TG := fun v σ H Q => ∃ a xs, v = .ref a /\ SqT K H a xs /\ xs.length = n /\ t xs σ H Q
theorem aPd {es : List Expr} {k : Nat} {t : TGs} {n : Nat} (hc : X.calm = true) (h : PGs X es t)
  (hn : (assignEach es X.env).length = n := by rfl) (hst : (assignEach es X.env).findIdx? (·.1) = none := by rfl) : PG X (.Tuple es k pos) (aWl X.K n t) := by
 intro pins s σ H v u Q I r hw
 obtain ⟨a, xs, e1, hq, hl, hw⟩ := hw
 subst e1
 cases r
 obtain ⟨its, rv, ht, hz⟩ := I.tuple hq
 refine assign_Tuple_tuple (I.ok.hd hc) ht (by simp [hn, <- hl, rv.length]) hst fun h' hx => ?_
 have I1 : Inv X pins σ H { s with heap := h' } := I.kept (t' := s.toks) fun b o e => hx b o (Nat.ne_of_lt (Heap.lt_size e)) e
 exact h pins _ σ H xs _ Q I1 (by simpa using rv) hw
def aWm (to ti : TE) (t : aPc) : TG := fun v σ H Q => to σ H fun o H1 => ti σ H1 fun i H2 => t o i v H2 fun H3 => Q σ H3
theorem aPe {o i : Expr} {to ti : TE} {t : aPc} (ho : PE X o to) (hi : PE X i ti) (hs : aSr X t)
  (ha : ∀ v, assign (.Subscript o i pos) X.env v = (do
   let ov <- holding [v] (eval o X.env)
   let iv <- holding [v, ov] (eval i X.env)
   standAt pos
   holding [v, ov, iv] (setItem ov iv v)
   release [v, ov, iv] []) := by intro _; rfl) : PG X (.Subscript o i pos) (aWm to ti t) := by
 intro pins s σ H v u Q I r h
 rw [ha]
 refine wpAny_bind (wpAny_holding (thn (ho pins s σ H _ I h) fun ov s1 ⟨x, H1, I1, r1, q1⟩ => ?_))
 refine wpAny_bind (wpAny_holding (thn (hi pins s1 σ H1 _ I1 q1) fun iv s2 ⟨y, H2, I2, r2, q2⟩ => ?_))
 refine wpAny_bind (wpAny_standAt (wpAny_bind (wpAny_holding (thn (hs pins s2 σ H2 x y v ov iv u _ I2 r1 r2 r q2) fun _ s3 ⟨H3, I3, q3⟩ => ?_))))
 exact wpAny_release ⟨σ, H3, I3, q3⟩
def aSt (te : TE) (g : TG) : TS := fun D σ H => te σ H fun x H1 => g x σ H1 D.nx
theorem aIo {tg e : Expr} {te : TE} {g : TG} (he : PE X e te) (hg : PG X tg g) (hs : swapsWithSole [tg] e pos.line X.env = pure false := by rfl) (hw : swappedStores [tg] e X.env = pure none := by rfl)
  (h1 : (assignEach [tg] X.env).map (·.2) = [assign tg X.env] := by rfl) : PS X (.Assign [tg] e pos) (aSt te g) := by
 intro pins s σ H D I h
 refine wpAny_Assign_stores (thn (he pins s σ H _ I h) fun v s1 ⟨x, H1, I1, r1, q1⟩ => ?_) hs hw
 rw [h1]
 exact thn (hg pins s1 σ H1 x v _ I1 r1 q1) fun _ s2 q => q
theorem uH {i : Nat} {x : Str} {e : Expr} {te : TE} {pos' : Pos} (hN : X.N.Nodup) (hi : X.N[i]? = some x) (hx : Loc X.env.scope x) (he : PE X e te) (hs : swapsWith e (some (.Name x pos')) pos.line X.env = pure false := by rfl) (hf : X.fn x = true \/ X.env.scope.names.lookup x = some .local := by first | exact .inl rfl | exact .inr rfl | assumption) :
  PS X (.Assign [.Name x pos'] e pos) (aSt te (aNz i)) := by
 intro pins s σ H D I h
 refine wpAny_Assign_Name (thn (he pins s σ H _ I h) fun v s1 ⟨y, H1, I1, r1, q1⟩ => ?_) hs
 exact aCi I1 hN hi hx r1 (fun s2 I2 => ⟨_, H1, I2, q1⟩) hf
end
section
variable {X : Cx} {pos : Pos}
def aPf (c : TT) (tb : TS) : TS := fun D σ H => ∃ W : Nat -> St -> Hp -> Prop, (∃ m, W m σ H) /\ ∀ m σ H, W m σ H ->
 c σ H fun b H1 => if b = true then ∃ N : St -> Hp -> Prop, (∀ σ' H', N σ' H' -> ∃ m', m' < m /\ W m' σ' H') /\ tb { D with nx := N, ct := N, bk := D.nx } σ H1 else D.nx σ H1
theorem aIp {c : Expr} {body : List Stmt} {tc : TT} {tb : TS} (hp : PassesOwn (model X.prog X.w) X.A X.env X.xe) (hc : PT X c tc) (hb : PSs X body tb) : PS X (.While c body [] pos) (aPf tc tb) := by
 intro pins s σ H D I h
 obtain ⟨W, ⟨m0, w0⟩, turn⟩ := h
 refine wpAny_While (codeAny_whileLoop (fun n s' => ∃ σ' H', Inv X pins σ' H' s' /\ W n σ' H') ?_ m0 ⟨σ, H, I, w0⟩)
 rintro n s1 ⟨σ1, H1, I1, w1⟩
 refine wpAny_passesOwn hp (thn (hc pins s1 σ1 H1 _ I1 (turn n σ1 H1 w1)) fun b s2 ⟨H2, I2, q2⟩ => ?_)
 cases b with
 | true =>
  obtain ⟨N, hN, q2⟩ := q2
  rw [if_pos rfl]
  refine wpAny_passesOwn hp (thn (hb pins s2 σ1 H2 _ I2 q2) fun f s3 q3 => ?_)
  cases f with
  | next =>
   obtain ⟨σ3, H3, I3, n3⟩ := q3
   obtain ⟨m', hm, w3⟩ := hN σ3 H3 n3
   exact ⟨m', hm, σ3, H3, I3, w3⟩
  | cont =>
   obtain ⟨σ3, H3, I3, n3⟩ := q3
   obtain ⟨m', hm, w3⟩ := hN σ3 H3 n3
   exact ⟨m', hm, σ3, H3, I3, w3⟩
  | brk => exact q3
  | ret v => exact q3
 | false =>
  rw [if_neg Bool.false_ne_true]
  exact wpAny_execs_nil ⟨σ1, H2, I2, q2⟩
end
structure It where
 go : Nat -> Hp -> Prop
 yld : Nat -> Hp -> V -> Hp -> Prop
 stop : Nat -> Hp -> Prop
def rY (X : Cx) (pins : List (Addr × Obj)) (H : Hp) (b : Addr) : Prop :=
 H b = none /\ b ≠ X.env.locals /\ b ∉ X.fs /\ (b ∈ X.ex \/ X.s₀.heap.objs.size <= b) /\ (∀ x c, X.env.cells.lookup x = some c -> c ≠ b) /\ ∀ p ∈ X.pn ++ pins, p.1 ≠ b
theorem Inv.fpOk {X : Cx} {pins : List (Addr × Obj)} {σ : St} {H H' : Hp} {s : Shared} {b : Addr} (I : Inv X pins σ H s) (hb : s.heap.objs.size <= b) (hn : H' b = none) : rY X pins H' b := by
 refine ⟨hn, Nat.ne_of_gt (Nat.lt_of_lt_of_le I.lt hb), I.nofs hb, .inr (Nat.le_trans I.sz hb), fun x c e z => ?_, fun p hp z => ?_⟩
 ·obtain ⟨v, q⟩ := I.cell x c e
  exact absurd (Nat.lt_of_lt_of_le q.lt (by rw [z]; exact hb)) (Nat.lt_irrefl _)
 ·exact absurd (Nat.lt_of_lt_of_le (Heap.lt_size (I.pin p hp).1) (by rw [z]; exact hb)) (Nat.lt_irrefl _)
structure Turn (P : Program) (w : World) (K : PySem.W.Frag) (tg : Expr) (J : It) (fp : List Addr) (it : Addr) (tn : Nat -> Heap -> Prop) : Prop where
 mem : it ∈ fp
 obj : ∀ i h, tn i h -> ∀ b ∈ fp, ∃ o, h.get? b = some o /\ ∀ v, o.data ≠ .cell v
 keep : ∀ i h h', tn i h -> (∀ b ∈ fp, ∀ o, h.get? b = some o -> h'.get? b = some o) -> tn i h'
 item : ∀ (X : Cx), X.prog = P -> X.w = w -> X.K = K -> X.calm = true -> ∀ (i : Nat) (pins : List (Addr × Obj)) (s : Shared) (σ : St) (H : Hp) (E : Value -> Shared -> Prop), Inv X pins σ H s -> (∀ b ∈ fp, rY X pins H b) -> tn i s.heap -> J.go i H ->
  wpAny (model P w) X.A (pyNext (.ref it)) (fun r s1 => ∃ u, r = some u /\
   wpAny (model P w) X.A (letOwnedTupleGo tg (.ref it) u) (fun _ s2 => ∃ x H', Inv X pins σ H' s2 /\ RelV x u /\ J.yld i H x H' /\ tn (i + 1) s2.heap /\ ∀ b ∈ fp, H' b = none) E s1) E s
 done : ∀ (X : Cx), X.prog = P -> X.w = w -> X.K = K -> X.calm = true -> ∀ (i : Nat) (pins : List (Addr × Obj)) (s : Shared) (σ : St) (H : Hp) (E : Value -> Shared -> Prop), Inv X pins σ H s -> (∀ b ∈ fp, rY X pins H b) -> tn i s.heap -> J.stop i H ->
  wpAny (model P w) X.A (pyNext (.ref it)) (fun r s1 => r = none /\ Inv X pins σ H s1) E s
 self : ∀ (A : Around) (i : Nat) (s : Shared) (Q : Value -> Shared -> Prop) (E : Value -> Shared -> Prop), tn i s.heap -> Q (.ref it) s -> wpAny (model P w) A (pyIter (.ref it)) Q E s
abbrev TI := St -> Hp -> (It -> Hp -> Prop) -> Prop
def PIE (X : Cx) (pins : List (Addr × Obj)) (σ : St) (tg : Expr) (R : It -> Hp -> Prop) (itv : Value) (s2 : Shared) : Prop :=
 ∃ (it : Addr) (fp : List Addr) (tn : Nat -> Heap -> Prop) (J : It) (H' : Hp), itv = .ref it /\ Inv X pins σ H' s2 /\ Turn X.prog X.w X.K tg J fp it tn /\ tn 0 s2.heap /\ (∀ b ∈ fp, rY X pins H' b) /\ R J H'
def PI (X : Cx) (tg iter : Expr) (wi : TI) : Prop :=
 ∀ (pins : List (Addr × Obj)) (s : Shared) (σ : St) (H : Hp) (R : It -> Hp -> Prop), Inv X pins σ H s -> wi σ H R ->
  wpAny (model X.prog X.w) X.A (eval iter X.env) (fun v s1 => wpAny (model X.prog X.w) X.A (pyIter v) (PIE X pins σ tg R) X.xe s1) X.xe s
theorem aFh {M : Model} {A : Around} {E : Value -> Shared -> Prop} {s : Shared} {tg : Expr} {it : Addr} {u : Value} {o : Obj} {n : String} {vs : Array Value} {Q : Unit -> Shared -> Prop} (ho : s.heap.get? it = some o) (hc : o.cls = .type n) (hd : o.data = .fields vs)
  (hn : ["enumerate", "zip", "dict_itemiterator", "dict_reverseitemiterator", "odict_iterator", "itertools.zip_longest", "itertools.pairwise"].contains n = false) (hQ : Q () s) : wpAny M A (letOwnedTupleGo tg (.ref it) u) Q E s := by
 unfold letOwnedTupleGo
 cases tg <;> first
  | exact wpAny_pure hQ
  | (cases u <;> first
    | exact wpAny_pure hQ
    | (refine wpAny_bind (wpAny_load ho ?_)
       rw [hc, hd]
       show wpAny M A (if (["enumerate", "zip", "dict_itemiterator", "dict_reverseitemiterator", "odict_iterator", "itertools.zip_longest", "itertools.pairwise"].contains n && vs[0]? == some (rawInt _)) = true then _ else _) Q E s
       rw [if_neg (by intro h; rw [hn, Bool.false_and] at h; cases h)]
       exact wpAny_pure hQ))
def Itl (K : PySem.W.Frag) (a : Addr) : It :=
 ⟨fun i H => ∃ xs x, SqL K H a xs /\ xs[i]? = some x, fun i H x H' => H' = H /\ ∀ xs, SqL K H a xs -> xs[i]? = some x, fun i H => ∃ xs, SqL K H a xs /\ xs.length <= i⟩
def Itt (K : PySem.W.Frag) (a : Addr) : It :=
 ⟨fun i H => ∃ xs x, SqT K H a xs /\ xs[i]? = some x, fun i H x H' => H' = H /\ ∀ xs, SqT K H a xs -> xs[i]? = some x, fun i H => ∃ xs, SqT K H a xs /\ xs.length <= i⟩
def Itr (lo : Int) (n : Nat) : It := ⟨fun i _ => i < n, fun i H x H' => H' = H /\ x = .int (lo + i), fun i _ => n <= i⟩
theorem aH0 {P : Program} {w : World} {K : PySem.W.Frag} {tg : Expr} (a it : Addr) : Turn P w K tg (Itl K a) [it] it (fun i h => h.IsListIter it a i) where
 mem := by simp
 obj := fun i h st b hb => by
  have e : b = it := by simpa using hb
  subst e
  obtain ⟨o, e, c, d⟩ := st
  exact ⟨o, e, fun v z => by rw [d] at z; cases z⟩
 keep := fun i h h' st k => st.at fun o e => k it (by simp) o e
 item := by
  intro X hP hw hK hc i pins s σ H E I hf st hg
  subst hP hw hK
  obtain ⟨xs, x, hq, hx⟩ := hg
  obtain ⟨its, rv, p, hz⟩ := I.list hq
  obtain ⟨u, hu, ru⟩ := rv.get hx
  obtain ⟨f0, f1, f2, f3, f4, f5⟩ := hf it (by simp)
  refine wpAny_pyNext_list_item st p.isList (x := u) (by simpa using hu) fun h' st' sb => ?_
  have I1 : Inv X pins σ H { s with heap := h' } := I.turned (t' := s.toks) (fun b o hb e => (sb.2 b hb).trans e) f0 f1 f3 f4 f5
  obtain ⟨o, e, c, d⟩ := id st'
  exact ⟨u, rfl, aFh (s := { s with heap := h' }) e c d (by decide) ⟨x, H, I1, ru, ⟨rfl, fun ys hy => by rw [I.list_inj hy hq]; exact hx⟩, st', fun b hb => (hf b hb).1⟩⟩
 done := by
  intro X hP hw hK hc i pins s σ H E I hf st hg
  subst hP hw hK
  obtain ⟨xs, hq, hx⟩ := hg
  obtain ⟨its, rv, p, hz⟩ := I.list hq
  obtain ⟨f0, f1, f2, f3, f4, f5⟩ := hf it (by simp)
  have hl := rv.length
  exact wpAny_pyNext_list_end (I.ok.hd hc) st p.isList (by simp; omega) fun h' eb => ⟨rfl, I.turned (t' := s.toks) (fun b o hb e => eb b o hb e) f0 f1 f3 f4 f5⟩
 self := fun _ _ _ _ _ st h => wpAny_pyIter_listiter st h
theorem aE6 {P : Program} {w : World} {K : PySem.W.Frag} {tg : Expr} (a it : Addr) : Turn P w K tg (Itt K a) [it] it (fun i h => h.IsTupleIter it a i) where
 mem := by simp
 obj := fun i h st b hb => by
  have e : b = it := by simpa using hb
  subst e
  obtain ⟨o, e, c, d⟩ := st
  exact ⟨o, e, fun v z => by rw [d] at z; cases z⟩
 keep := fun i h h' st k => st.at fun o e => k it (by simp) o e
 item := by
  intro X hP hw hK hc i pins s σ H E I hf st hg
  subst hP hw hK
  obtain ⟨xs, x, hq, hx⟩ := hg
  obtain ⟨its, rv, p, hz⟩ := I.tuple hq
  obtain ⟨u, hu, ru⟩ := rv.get hx
  obtain ⟨f0, f1, f2, f3, f4, f5⟩ := hf it (by simp)
  refine wpAny_pyNext_tuple_item st (show s.heap.IsTuple a its.toArray from p) (x := u) (by simpa using hu) fun h' st' sb => ?_
  have I1 : Inv X pins σ H { s with heap := h' } := I.turned (t' := s.toks) (fun b o hb e => (sb.2 b hb).trans e) f0 f1 f3 f4 f5
  obtain ⟨o, e, c, d⟩ := id st'
  exact ⟨u, rfl, aFh (s := { s with heap := h' }) e c d (by decide) ⟨x, H, I1, ru, ⟨rfl, fun ys hy => by rw [I.tuple_inj hy hq]; exact hx⟩, st', fun b hb => (hf b hb).1⟩⟩
 done := by
  intro X hP hw hK hc i pins s σ H E I hf st hg
  subst hP hw hK
  obtain ⟨xs, hq, hx⟩ := hg
  obtain ⟨its, rv, p, hz⟩ := I.tuple hq
  obtain ⟨f0, f1, f2, f3, f4, f5⟩ := hf it (by simp)
  have hl := rv.length
  exact wpAny_pyNext_tuple_end (I.ok.hd hc) st (show s.heap.IsTuple a its.toArray from p) (by simp; omega) fun h' eb => ⟨rfl, I.turned (t' := s.toks) (fun b o hb e => eb b o hb e) f0 f1 f3 f4 f5⟩
 self := fun _ _ _ _ _ st h => wpAny_pyIter_tupleiter st h
theorem aE7 {P : Program} {w : World} {K : PySem.W.Frag} {tg : Expr} (it : Addr) (lo : Int) (n : Nat) : Turn P w K tg (Itr lo n) [it] it (fun i h => IsRangeIter h it (lo + (i : Nat) * 1) ((n : Int) - (i : Nat)) 1) where
 mem := by simp
 obj := fun i h st b hb => by
  have e : b = it := by simpa using hb
  subst e
  exact ⟨_, st, fun v z => by
   have z' : Data.fields _ = Data.cell v := z
   cases z'⟩
 keep := fun i h h' st k => k it (by simp) _ st
 item := by
  intro X hP hw hK hc i pins s σ H E I hf st hg
  subst hP hw hK
  obtain ⟨f0, f1, f2, f3, f4, f5⟩ := hf it (by simp)
  have W := Walks.range (prog := X.prog) (w := X.w) (I.ok.hd hc) it lo 1 n
  refine W.item i s _ _ hg st fun v h' tk hv st' kk => ?_
  obtain ⟨t, rfl⟩ := hv
  have I1 : Inv X pins σ H { s with heap := h', toks := tk } := I.turned (fun b o hb e => kk b o (by simpa using hb) e) f0 f1 f3 f4 f5
  refine ⟨_, rfl, aFh (s := { s with heap := h', toks := tk }) (n := "range_iterator") st' rfl rfl (by decide) ⟨.int (lo + i), H, I1, ⟨t, ?_⟩, ⟨rfl, rfl⟩, st', fun b hb => (hf b hb).1⟩⟩
  rw [Int.mul_one]
 done := by
  intro X hP hw hK hc i pins s σ H E I hf st hg
  subst hP hw hK
  obtain ⟨f0, f1, f2, f3, f4, f5⟩ := hf it (by simp)
  exact wpAny_pyNext_range_end (I.ok.hd hc) st (by have : n <= i := hg; omega) fun h' eb => ⟨rfl, I.turned (t' := s.toks) (fun b o hb e => eb b o hb e) f0 f1 f3 f4 f5⟩
 self := fun _ _ _ _ _ st h => wpAny_pyIter_rangeiter st h
end L2
namespace L2
open PySem PySem.Spec PyProof.Rows
section
variable {X : Cx} {tg : Expr}
theorem aCj {pins : List (Addr × Obj)} {σ : St} {H : Hp} {s : Shared} {R : It -> Hp -> Prop} {E : Value -> Shared -> Prop} {lo hi : Int} {t u v : Tok} {tk : Nat} (I : Inv X pins σ H s) (h1 : -(2 ^ 62) <= lo) (h2 : lo < 2 ^ 62) (h3 : -(2 ^ 62) <= hi) (h4 : hi < 2 ^ 62)
  (q : R (Itr lo (hi - lo).toNat) H) : wpAny (model X.prog X.w) X.A (pyIter (.ref s.heap.objs.size)) (PIE X pins σ tg R) E { s with heap := s.heap.push { cls := .type "range", data := .fields #[.int lo t, .int hi u, .int 1 v] }, toks := tk } := by
 refine wpAny_pyIter_range (IsRange.new ..) (small_one h1 h2 h3 h4) ?_
 have I1 : Inv X pins σ H { s with heap := s.heap.push { cls := .type "range", data := .fields #[.int lo t, .int hi u, .int 1 v] }, toks := tk } := I.kept fun b o e => Heap.get?_push_of_some _ e
 refine ⟨(s.heap.push { cls := .type "range", data := .fields #[.int lo t, .int hi u, .int 1 v] }).objs.size, [(s.heap.push { cls := .type "range", data := .fields #[.int lo t, .int hi u, .int 1 v] }).objs.size], _, _, H, rfl,
  I1.kept (t' := tk) fun b o e => Heap.get?_push_of_some _ e, aE7 _ lo (hi - lo).toNat, ?_, fun b hb => ?_, q⟩
 ·have e1 : lo + ((0 : Nat) : Int) * 1 = lo := by simp
  have e2 : (((hi - lo).toNat : Nat) : Int) - ((0 : Nat) : Int) = Builtin.Range.rangeSize lo hi 1 := by rw [rangeSize_one]; split <;> omega
  show IsRangeIter _ _ (lo + ((0 : Nat) : Int) * 1) ((((hi - lo).toNat : Nat) : Int) - ((0 : Nat) : Int)) 1
  rw [e1, e2]
  exact Heap.get?_push_size _ rfl
 ·have e : b = (s.heap.push { cls := .type "range", data := .fields #[.int lo t, .int hi u, .int 1 v] }).objs.size := by simpa using hb
  subst e
  exact I1.fpOk (Nat.le_refl _) (I1.hok.fresh (Nat.le_refl _))
def aSu (ta : TA) : TI := fun σ H R => ta σ H fun vs H1 => ∃ j : Int, vs = [.int j] /\ -(2 ^ 62) <= j /\ j < 2 ^ 62 /\ R (Itr 0 j.toNat) H1
def aSv (ta : TA) : TI := fun σ H R => ta σ H fun vs H1 => ∃ i j : Int, vs = [.int i, .int j] /\ (-(2 ^ 62) <= i /\ i < 2 ^ 62 /\ -(2 ^ 62) <= j /\ j < 2 ^ 62) /\ R (Itr i (j - i).toNat) H1
theorem aH1 {a : Expr} {ta : TA} {p pos : Pos} (hg : Gl X "range") (hm : X.mg "range" = none) (ha : PA X [a] ta) (hs : starEach [a] X.env = [(false, eval a X.env)] := by rfl) : PI X tg (.Call (.Name "range" p) [a] [] pos) (aSu ta) := by
 intro pins s σ H R I h
 refine Call_ (rB I hg hm boot_range (PyProof.Rows.callWith_type1 (thn (ha pos pins s σ H _ I h) fun us s1 ⟨vs, H1, I1, r1, q1⟩ => ?_) hs rfl))
 obtain ⟨j, e, q1, q2, q⟩ := q1
 subst e
 cases r1 with
 | cons r rr =>
  cases rr
  obtain ⟨t, rfl⟩ := r
  exact call_range_1 (aCj I1 (by omega) (by omega) q1 q2 (by simpa using q))
theorem aH2 {a b : Expr} {ta : TA} {p pos : Pos} (hg : Gl X "range") (hm : X.mg "range" = none) (ha : PA X [a, b] ta) (hs : starEach [a, b] X.env = [(false, eval a X.env), (false, eval b X.env)] := by rfl) (hs2 : starEach [b] X.env = [(false, eval b X.env)] := by rfl) :
  PI X tg (.Call (.Name "range" p) [a, b] [] pos) (aSv ta) := by
 intro pins s σ H R I h
 refine Call_ (rB I hg hm boot_range (PyProof.Rows.callWith_type1 (thn (ha pos pins s σ H _ I h) fun us s1 ⟨vs, H1, I1, r1, q1⟩ => ?_) (by rw [hs, hs2]) (by rw [hs2]; rfl)))
 obtain ⟨i, j, e, ⟨q1, q2, q3, q4⟩, q⟩ := q1
 subst e
 cases r1 with
 | cons r rr =>
  cases rr with
  | cons r' rr =>
   cases rr
   obtain ⟨t, rfl⟩ := r
   obtain ⟨t', rfl⟩ := r'
   exact call_range_2 (aCj I1 q1 q2 q3 q4 q)
def aWn (wi : TI) (g : TG) (tb : TS) : TS := fun D σ H => wi σ H fun J H1 => ∃ W : Nat -> Nat -> St -> Hp -> Prop, (∃ m, W 0 m σ H1) /\ ∀ i m σ H, W i m σ H ->
 (J.stop i H /\ D.nx σ H) \/ (J.go i H /\ ∃ N : St -> Hp -> Prop, (∀ σ' H', N σ' H' -> ∃ m', m' < m /\ W (i + 1) m' σ' H') /\ ∀ x H', J.yld i H x H' -> g x σ H' fun σ2 H2 => tb { D with nx := N, ct := N, bk := D.nx } σ2 H2)
def aB3 (fp : List Addr) (h : Heap) : List (Addr × Obj) := fp.filterMap fun b => (h.get? b).map fun o => (b, o)
theorem nO {fp : List Addr} {h : Heap} {b : Addr} {o : Obj} (hb : b ∈ fp) (e : h.get? b = some o) : (b, o) ∈ aB3 fp h := List.mem_filterMap.mpr ⟨b, hb, by rw [e]; rfl⟩
theorem aH3 {fp : List Addr} {h : Heap} {p : Addr × Obj} (hp : p ∈ aB3 fp h) : p.1 ∈ fp /\ h.get? p.1 = some p.2 := by
 obtain ⟨b, hb, e⟩ := List.mem_filterMap.mp hp
 cases q : h.get? b with
 | none => rw [q] at e; cases e
 | some o =>
  rw [q] at e
  have e' : (b, o) = p := Option.some.inj e
  subst e'
  exact ⟨hb, q⟩
theorem Inv.pinned {pins : List (Addr × Obj)} {σ : St} {H : Hp} {s : Shared} {fp : List Addr} (I : Inv X pins σ H s) (hf : ∀ b ∈ fp, rY X pins H b) (ho : ∀ b ∈ fp, ∃ o, s.heap.get? b = some o /\ ∀ v, o.data ≠ .cell v) : Inv X (pins ++ aB3 fp s.heap) σ H s :=
 I.pins_of fun p hp => (List.mem_append.mp hp).elim (fun z => I.pin p (List.mem_append_right _ z)) fun z => by
  obtain ⟨hb, e⟩ := aH3 z
  obtain ⟨f0, f1, f2, _⟩ := hf p.1 hb
  obtain ⟨o, e', d⟩ := ho p.1 hb
  rw [e] at e'; cases e'
  exact ⟨e, f0, f1, f2, d⟩
theorem Inv.unpinned {pins pl : List (Addr × Obj)} {σ : St} {H : Hp} {s : Shared} (I : Inv X (pins ++ pl) σ H s) : Inv X pins σ H s := I.pins_of fun p hp => I.pin p (List.mem_append_right _ (List.mem_append_left _ hp))
theorem aPg {iter : Expr} {body : List Stmt} {wi : TI} {g : TG} {tb : TS} {pos : Pos} (hp : PassesOwn (model X.prog X.w) X.A X.env X.xe) (hc : X.calm = true) (hi : PI X tg iter wi) (hg : PG X tg g) (hb : PSs X body tb)
  (hs : ∀ x, foldedSetIterable iter X.env x = pure x := by intro _; rfl) : PS X (.For tg iter body [] pos) (aWn wi g tb) := by
 intro pins s σ H D I h
 refine wpAny_For (thn (hi pins s σ H _ I h) fun v s1 h1 => thn h1 fun itv s2 h2 => ?_) hs
 obtain ⟨it, fp, tn, J, H2, e, I2, T, st2, f2, W, ⟨m0, w0⟩, turn⟩ := h2
 subst e
 have stat : ∀ {H' : Hp}, (∀ b ∈ fp, H' b = none) -> ∀ b ∈ fp, rY X pins H' b := fun hn b hb => ⟨hn b hb, (f2 b hb).2⟩
 refine codeAny_forLoop_any (fun n s' => ∃ i σ' H', Inv X pins σ' H' s' /\ tn i s'.heap /\ (∀ b ∈ fp, H' b = none) /\ W i n σ' H') ?_ m0 ⟨0, σ, H2, I2, st2, fun b hb => (f2 b hb).1, w0⟩
 rintro n s3 ⟨i, σ3, H3, I3, st3, fr3, w3⟩
 rcases turn i n σ3 H3 w3 with ⟨stop, qn⟩ | ⟨go, N, hN, step⟩
 ·refine wpAny_passesOwn hp (thn (T.done X rfl rfl rfl hc i pins s3 σ3 H3 X.xe I3 (stat fr3) st3 stop) fun r s4 ⟨hr, I4⟩ => ?_)
  subst hr
  exact wpAny_execs_nil ⟨σ3, H3, I4, qn⟩
 ·refine wpAny_passesOwn hp (thn (T.item X rfl rfl rfl hc i pins s3 σ3 H3 X.xe I3 (stat fr3) st3 go) fun r s4 ⟨u, hr, h4⟩ => ?_)
  subst hr
  refine wpAny_passesOwn hp (thn h4 fun _ s5 ⟨x, H5, I5, r5, y5, st5, fr5⟩ => ?_)
  have I5' := I5.pinned (stat fr5) (T.obj _ _ st5)
  refine wpAny_passesOwn hp (thn (hg _ s5 σ3 H5 x u _ I5' r5 (step x H5 y5)) fun _ s6 ⟨σ6, H6, I6, q6⟩ => ?_)
  refine wpAny_passesOwn hp (thn (hb _ s6 σ6 H6 _ I6 q6) fun f s7 q7 => ?_)
  have again : ∀ {σ7 : St} {H7 : Hp}, Inv X (pins ++ aB3 fp s5.heap) σ7 H7 s7 -> N σ7 H7 -> ∃ m, m < n /\ ∃ i σ' H', Inv X pins σ' H' s7 /\ tn i s7.heap /\ (∀ b ∈ fp, H' b = none) /\ W i m σ' H' := fun {σ7 H7} I7 n7 => by
   obtain ⟨m', hm, w7⟩ := hN σ7 H7 n7
   refine ⟨m', hm, i + 1, σ7, H7, I7.unpinned, T.keep _ _ _ st5 fun b hb o e => (I7.pin (b, o) (List.mem_append_right _ (List.mem_append_right _ (nO hb e)))).1, fun b hb => ?_, w7⟩
   obtain ⟨o, e, d⟩ := T.obj _ _ st5 b hb
   exact (I7.pin (b, o) (List.mem_append_right _ (List.mem_append_right _ (nO hb e)))).2.1
  cases f with
  | next => obtain ⟨σ7, H7, I7, n7⟩ := q7; exact again I7 n7
  | cont => obtain ⟨σ7, H7, I7, n7⟩ := q7; exact again I7 n7
  | brk => obtain ⟨σ7, H7, I7, q7⟩ := q7; exact ⟨σ7, H7, I7.unpinned, q7⟩
  | ret v => obtain ⟨x7, σ7, H7, I7, r7, q7⟩ := q7; exact ⟨x7, σ7, H7, I7.unpinned, r7, q7⟩
end
end L2
namespace L2
open PySem PySem.Spec PyProof.Rows
abbrev R2 := V -> V -> Hp -> VK -> Prop
def OpR (X : Cx) (f : Value -> Value -> Sem Value) (r : R2) : Prop :=
 ∀ (pins : List (Addr × Obj)) (s : Shared) (σ : St) (H : Hp) (x y : V) (v u : Value) (Q : VK), Inv X pins σ H s -> RelV x v -> RelV y u -> r x y H Q ->
  wpAny (model X.prog X.w) X.A (f v u) (EP X pins σ Q) X.xe s
def UnR (X : Cx) (f : Value -> Sem Value) (r : V -> Hp -> VK -> Prop) : Prop :=
 ∀ (pins : List (Addr × Obj)) (s : Shared) (σ : St) (H : Hp) (x : V) (v : Value) (Q : VK), Inv X pins σ H s -> RelV x v -> r x H Q ->
  wpAny (model X.prog X.w) X.A (f v) (EP X pins σ Q) X.xe s
def jV (X : Cx) (f : Value) (r : List V -> Hp -> VK -> Prop) : Prop :=
 ∀ (pins : List (Addr × Obj)) (s : Shared) (σ : St) (H : Hp) (xs : List V) (us : List Value) (Q : VK), Inv X pins σ H s -> Vals xs us -> r xs H Q ->
  wpAny (model X.prog X.w) X.A (call f us) (EP X pins σ Q) X.xe s
def tOp (r : R2) (ta tb : TE) : TE := fun σ H Q => ta σ H fun x H1 => tb σ H1 fun y H2 => r x y H2 Q
def tUn (r : V -> Hp -> VK -> Prop) (ta : TE) : TE := fun σ H Q => ta σ H fun x H1 => r x H1 Q
def rI (C : Int -> Int -> Prop) (g : Int -> Int -> V) : R2 := fun x y H Q => ∃ i j, x = .int i /\ y = .int j /\ C i j /\ Q (g i j) H
def rI0 (g : Int -> Int -> V) : R2 := fun x y H Q => ∃ i j, x = .int i /\ y = .int j /\ Q (g i j) H
def rU (g : Int -> V) : V -> Hp -> VK -> Prop := fun x H Q => ∃ i, x = .int i /\ Q (g i) H
section
variable {X : Cx} {a b c : Expr} {ta tb tc : TE} {pos : Pos}
theorem aPh (ha : PE X a ta) (hb : PE X b tb) {pins : List (Addr × Obj)} {s : Shared} {σ : St} {H : Hp} {R : V -> V -> Hp -> Prop} (I : Inv X pins σ H s)
  (h : ta σ H fun x H1 => tb σ H1 fun y H2 => R x y H2) {Q : Value -> Shared -> Prop} {f : Value -> Value -> Sem Value}
  (hf : ∀ v u s2 x y H2, Inv X pins σ H2 s2 -> RelV x v -> RelV y u -> R x y H2 -> wpAny (model X.prog X.w) X.A (f v u) Q X.xe s2) :
  wpAny (model X.prog X.w) X.A (eval a X.env) (fun v s₁ => wpAny (model X.prog X.w) X.A (eval b X.env) (fun u s₂ => wpAny (model X.prog X.w) X.A (f v u) Q X.xe s₂) X.xe s₁) X.xe s := by
 refine thn (ha pins s σ H _ I h) fun v s1 ⟨x, H1, I1, r1, q1⟩ => ?_
 refine thn (hb pins s1 σ H1 _ I1 q1) fun u s2 ⟨y, H2, I2, r2, q2⟩ => ?_
 exact hf v u s2 x y H2 I2 r1 r2 q2
theorem aSw {op : Operator} {r : R2} (ho : OpR X (binaryOp op) r) (ha : PE X a ta) (hb : PE X b tb) : PE X (.BinOp a op b pos) (tOp r ta tb) := by
 intro pins s σ H Q I h
 exact wpAny_BinOp (aPh ha hb I h fun v u s2 x y H2 I2 rx ry q => ho pins s2 σ H2 x y v u Q I2 rx ry q)
theorem aSx {op : UnaryOp} {r : V -> Hp -> VK -> Prop} (ho : UnR X (unaryOp op) r) (ha : PE X a ta) : PE X (.UnaryOp op a pos) (tUn r ta) := by
 intro pins s σ H Q I h
 exact UnaryOp_ (thn (ha pins s σ H _ I h) fun v s1 ⟨x, H1, I1, r1, q1⟩ => ho pins s1 σ H1 x v Q I1 r1 q1)
theorem opI {f : Value -> Value -> Sem Value} {C : Int -> Int -> Prop} {g : Int -> Int -> Int}
  (rule : ∀ (i j : Int) (t u : Tok) (s : Shared) (Q : Value -> Shared -> Prop) (E : Value -> Shared -> Prop), C i j -> Q (.int (g i j) s.toks) { s with toks := s.toks + 1 } -> wpAny (model X.prog X.w) X.A (f (.int i t) (.int j u)) Q E s) :
  OpR X f (rI C fun i j => .int (g i j)) := by
 intro pins s σ H x y v u Q I rx ry h
 obtain ⟨i, j, rfl, rfl, hc, q⟩ := h
 obtain ⟨t, rfl⟩ := rx
 obtain ⟨t', rfl⟩ := ry
 exact rule i j t t' s _ _ hc ⟨.int (g i j), H, I.tok _, ⟨_, rfl⟩, q⟩
theorem aSy {f : Value -> Value -> Sem Value} {g : Int -> Int -> Int}
  (rule : ∀ (i j : Int) (t u : Tok) (s : Shared) (Q : Value -> Shared -> Prop) (E : Value -> Shared -> Prop), Q (.int (g i j) s.toks) { s with toks := s.toks + 1 } -> wpAny (model X.prog X.w) X.A (f (.int i t) (.int j u)) Q E s) :
  OpR X f (rI0 fun i j => .int (g i j)) := by
 intro pins s σ H x y v u Q I rx ry h
 obtain ⟨i, j, rfl, rfl, q⟩ := h
 obtain ⟨t, rfl⟩ := rx
 obtain ⟨t', rfl⟩ := ry
 exact rule i j t t' s _ _ ⟨.int (g i j), H, I.tok _, ⟨_, rfl⟩, q⟩
theorem aLr {f : Value -> Value -> Sem Value} {g : Int -> Int -> Bool}
  (rule : ∀ (i j : Int) (t u : Tok) (s : Shared) (Q : Value -> Shared -> Prop) (E : Value -> Shared -> Prop), Q (.bool (g i j)) s -> wpAny (model X.prog X.w) X.A (f (.int i t) (.int j u)) Q E s) :
  OpR X f (rI0 fun i j => .bl (g i j)) := by
 intro pins s σ H x y v u Q I rx ry h
 obtain ⟨i, j, rfl, rfl, q⟩ := h
 obtain ⟨t, rfl⟩ := rx
 obtain ⟨t', rfl⟩ := ry
 exact rule i j t t' s _ _ ⟨.bl (g i j), H, I, rfl, q⟩
def aWo (i j : Int) : Prop := 0 < j /\ j < 1073741824
def aWp (i j : Int) : Prop := 0 <= j /\ j <= 1000000 /\ i.natAbs < 2 ^ 64
def aIq (i j : Int) : Prop := (-(2 ^ 64) < i /\ i < 2 ^ 64) \/ (-(2 ^ 64) < j /\ j < 2 ^ 64)
theorem aIq.ok {i j : Int} (h : aIq i j) : IntMulOk i j := by
 rcases h with ⟨h1, h2⟩ | ⟨h1, h2⟩
 ·exact .of_left (intBits_le_64 h1 h2)
 ·exact .of_right (intBits_le_64 h1 h2)
theorem aPi : OpR X (binaryOp .Add) (rI0 fun i j => .int (i + j)) := aSy fun _ _ _ _ _ _ _ q => add_int q
theorem aPj : OpR X (binaryOp .Sub) (rI0 fun i j => .int (i - j)) := aSy fun _ _ _ _ _ _ _ q => sub_int q
theorem aPk : OpR X (binaryOp .Mult) (rI aIq fun i j => .int (i * j)) := opI fun _ _ _ _ _ _ _ hc q => mul_int q hc.ok
theorem aLs : OpR X (binaryOp .FloorDiv) (rI aWo fun i j => .int (i / j)) := opI fun i j _ _ _ _ _ hc q => by
 have h1 : (0 : Int) < j := hc.1
 have h2 : j < 1073741824 := hc.2
 exact floordiv_int (by omega) (by rw [Int.fdiv_eq_ediv_of_nonneg i (by omega)]; exact q) (.inl (PyProof.noPylong_small (by omega)))
theorem aPl : OpR X (binaryOp .Mod) (rI (fun _ j => 0 < j) fun i j => .int (i % j)) := opI fun i j _ _ _ _ _ hc q => by
 have h1 : (0 : Int) < j := hc
 exact mod_int' (by omega) (by rw [Int.fmod_eq_emod_of_nonneg i (by omega)]; exact q)
theorem aPm : OpR X (binaryOp .Pow) (rI aWp fun i j => .int (i ^ j.toNat)) := opI fun _ _ _ _ _ _ _ hc q => pow_int_small hc.1 hc.2.1 hc.2.2 q
theorem unI {f : Value -> Sem Value} {g : Int -> Int}
  (rule : ∀ (i : Int) (t : Tok) (s : Shared) (Q : Value -> Shared -> Prop) (E : Value -> Shared -> Prop), Q (.int (g i) s.toks) { s with toks := s.toks + 1 } -> wpAny (model X.prog X.w) X.A (f (.int i t)) Q E s) :
  UnR X f (rU fun i => .int (g i)) := by
 intro pins s σ H x v Q I rx h
 obtain ⟨i, rfl, q⟩ := h
 obtain ⟨t, rfl⟩ := rx
 exact rule i t s _ _ ⟨.int (g i), H, I.tok _, ⟨_, rfl⟩, q⟩
theorem aPn : UnR X (unaryOp .USub) (rU fun i => .int (-i)) := unI fun _ _ _ _ _ q => neg_int q
end
section
variable {X : Cx} {a b c : Expr} {ta tb tc : TE} {pos : Pos}
theorem aIr {pins : List (Addr × Obj)} {σ : St} {H : Hp} {s : Shared} {Q : VK} {k k' : Bool} (I : Inv X pins σ H s) (q : Q (.bl k) H) (e : k = k') : EP X pins σ Q (.bool k') s := by
 subst e
 exact ⟨.bl k, H, I, rfl, q⟩
theorem aIs : OpR X (compareOp .Lt) (rI0 fun i j => .bl (decide (i < j))) := aLr fun _ _ _ _ _ _ _ q => lt_int q
theorem aSz : OpR X (compareOp .LtE) (rI0 fun i j => .bl (decide (i <= j))) := aLr fun _ _ _ _ _ _ _ q => le_int q
theorem aT0 : OpR X (compareOp .Gt) (rI0 fun i j => .bl (decide (j < i))) := aLr fun _ _ _ _ _ _ _ q => gt_int q
theorem aIt : OpR X (compareOp .GtE) (rI0 fun i j => .bl (decide (j <= i))) := aLr fun _ _ _ _ _ _ _ q => ge_int q
theorem aH4 : OpR X (compareOp .In) (fun x y H Q => ∃ i j, x = .str i /\ y = .str j /\ Q (.bl (!(Builtin.Str.occurrences j i 0 j.length 1).isEmpty)) H) := by
 intro pins s σ H x y v u Q I rx ry h
 obtain ⟨i, j, rfl, rfl, q⟩ := h
 obtain ⟨t, rfl⟩ := rx
 obtain ⟨t', rfl⟩ := ry
 exact in_str (aIr I q rfl)
theorem aB4 : OpR X (compareOp .NotIn) (fun x y H Q => ∃ i j, x = .str i /\ y = .str j /\ Q (.bl (!(!(Builtin.Str.occurrences j i 0 j.length 1).isEmpty))) H) := by
 intro pins s σ H x y v u Q I rx ry h
 obtain ⟨i, j, rfl, rfl, q⟩ := h
 obtain ⟨t, rfl⟩ := rx
 obtain ⟨t', rfl⟩ := ry
 exact notIn_str (aIr I q rfl)
theorem OpR.or {f : Value -> Value -> Sem Value} {r r' : R2} (h : OpR X f r) (h' : OpR X f r') : OpR X f (fun x y H Q => r x y H Q \/ r' x y H Q) := by
 intro pins s σ H x y v u Q I rx ry q
 rcases q with q | q
 ·exact h pins s σ H x y v u Q I rx ry q
 ·exact h' pins s σ H x y v u Q I rx ry q
theorem cR (b : Expr) {op : CmpOp} (h : op ≠ .In := by decide) (h2 : op ≠ .NotIn := by decide) : behindInMarks op b = false := by
 have e1 : (op == CmpOp.In) = false := by cases op <;> first | rfl | exact absurd rfl h
 have e2 : (op == CmpOp.NotIn) = false := by cases op <;> first | rfl | exact absurd rfl h2
 cases b <;> simp [behindInMarks, e1, e2]
theorem aLt {op : CmpOp} {r : R2} (ho : OpR X (compareOp op) r) (ha : PE X a ta) (hb : PE X b tb) (hm : behindInMarks op b = false) : PE X (.Compare a [op] [b] pos) (tOp r ta tb) := by
 intro pins s σ H Q I h
 exact wpAny_Compare1 (aPh ha hb I h fun v u s2 x y H2 I2 rx ry q => ho pins s2 σ H2 x y v u Q I2 rx ry q) hm
def aT1 (t : TE) : TT := fun σ H Q => t σ H fun x H' => ∃ k, x = .bl k /\ Q k H'
theorem aLu {op : CmpOp} {r : R2} (ho : OpR X (compareOp op) r) (ha : PE X a ta) (hb : PE X b tb) (hm : behindInMarks op b = false) : PT X (.Compare a [op] [b] pos) (aT1 (tOp r ta tb)) := by
 intro pins s σ H Q I h
 refine wpAny_isTrue_Compare1 (thn (ha pins s σ H _ I h) fun v s1 ⟨x, H1, I1, r1, q1⟩ => thn (hb pins s1 σ H1 _ I1 q1) fun u s2 ⟨y, H2, I2, r2, q2⟩ =>
  thn (ho pins s2 σ H2 x y v u _ I2 r1 r2 q2) fun c s3 ⟨z, H3, I3, r3, k, e, q3⟩ => ?_) hm
 subst e
 cases r3
 exact wpAny_truthy_bool ⟨H3, I3, q3⟩
theorem xF : (sizeLine : Nat) < 2 ^ 63 := by rw [sizeLine_eq]; decide
theorem aE8 : OpR X (binaryOp .Add) (fun x y H Q => ∃ i j, x = .str i /\ y = .str j /\ i.length + j.length <= sizeLine /\ Q (.str (i ++ j)) H) := by
 intro pins s σ H x y v u Q I rx ry h
 obtain ⟨i, j, rfl, rfl, hz, q⟩ := h
 obtain ⟨t, rfl⟩ := rx
 obtain ⟨t', rfl⟩ := ry
 exact add_str (fun t' tk => ⟨.str (i ++ j), H, I.tok _, ⟨_, rfl⟩, q⟩) hz
theorem vals1 {x : V} {us : List Value} (r : Vals [x] us) : ∃ u, us = [u] /\ RelV x u := by
 cases r with
 | cons r1 r2 => cases r2; exact ⟨_, rfl, r1⟩
theorem vals2 {x y : V} {us : List Value} (r : Vals [x, y] us) : ∃ u w', us = [u, w'] /\ RelV x u /\ RelV y w' := by
 cases r with
 | cons r1 r2 =>
  cases r2 with
  | cons r3 r4 => cases r4; exact ⟨_, _, rfl, r1, r3⟩
theorem aH5 (hc : X.calm = true) : jV X (.builtin "max") (fun xs H Q => ∃ i j, xs = [.int i, .int j] /\ Q (.int (if j > i then j else i)) H) := by
 intro pins s σ H xs us Q I r h
 obtain ⟨i, j, rfl, q⟩ := h
 obtain ⟨u, w', rfl, ⟨t, rfl⟩, ⟨t', rfl⟩⟩ := vals2 r
 refine max_two_ints (I.ok.hd hc) fun h' tk k => ⟨_, H, I.kept k, ?_, q⟩
 by_cases hj : j > i
 ·rw [if_pos hj, if_pos hj]; exact ⟨_, rfl⟩
 ·rw [if_neg hj, if_neg hj]; exact ⟨_, rfl⟩
theorem aH6 (hc : X.calm = true) : jV X (.builtin "min") (fun xs H Q => ∃ i j, xs = [.int i, .int j] /\ Q (.int (if j < i then j else i)) H) := by
 intro pins s σ H xs us Q I r h
 obtain ⟨i, j, rfl, q⟩ := h
 obtain ⟨u, w', rfl, ⟨t, rfl⟩, ⟨t', rfl⟩⟩ := vals2 r
 refine min_two_ints (I.ok.hd hc) fun h' tk k => ⟨_, H, I.kept k, ?_, q⟩
 by_cases hj : j < i
 ·rw [if_pos hj, if_pos hj]; exact ⟨_, rfl⟩
 ·rw [if_neg hj, if_neg hj]; exact ⟨_, rfl⟩
end
end L2
namespace L2
open PySem PySem.Spec PyProof.Rows
structure ObjM (h : Heap) (x dx C : Addr) (mA : Str -> Option Value) : Prop where
 obj : h.get? x = some (PySem.W.instObj C dx)
 ns : h.Ns1 dx mA
 ne : dx ≠ x
theorem aH7 {h : Heap} {dx : Addr} {mA : Str -> Option Value} (n : h.Ns1 dx mA) : ∃ od, h.get? dx = some od /\ ∀ name, PySem.W.lookIn name od = some (mA name) := by
 obtain ⟨o, es, ep, ho, hd, hk, _, hm⟩ := n
 refine ⟨o, ho, fun name => ?_⟩
 have e := hm name
 unfold nsFind findBy at e
 rw [<- Array.find?_toList] at e
 unfold PySem.W.lookIn
 rw [hd]
 dsimp only
 split
 ·rename_i y q
  rw [q] at e
  exact congrArg some e
 ·rename_i q
  rw [q] at e
  have a : es.toList.any (·.refKey) = false := by
   rw [List.any_eq_false]
   intro y hy
   obtain ⟨z, t, hkey⟩ := hk y (Array.mem_toList_iff.mp hy)
   simp [DictEntry.refKey, hkey]
  have a' : ¬ es.toList.any (·.refKey) = true := by rw [a]; exact Bool.false_ne_true
  rw [if_neg a']
  exact congrArg some e
theorem ObjM.look {h : Heap} {x dx C : Addr} {mA : Str -> Option Value} (I : ObjM h x dx C mA) : ∃ od, PySem.W.InstAt h x (PySem.W.instObj C dx) C (some od) /\ ∀ name, PySem.W.lookIn name od = some (mA name) :=
 let ⟨od, ho, hl⟩ := aH7 I.ns
 ⟨od, ⟨I.obj, rfl, rfl, ho⟩, hl⟩
section
variable {prog : Program} {w : World} {A : Around} {E : Value -> Shared -> Prop} {s : Shared} {K : PySem.W.Frag} {x dx C f : Addr} {mA : Str -> Option Value} {name : Str} {v : Value}
theorem aLv {expr : Bool} {Q : Value -> Shared -> Prop} (X : K.In s.heap) (I : ObjM s.heap x dx C mA) (hg : PySem.W.plainGet K C name = true) (hh : PySem.W.hasDictIn K C = true)
  (ha : PySem.W.findIn K (.ref C) name = some none) (hv : mA name = some v) (hv' : PySem.W.handedIn v = true) (h : Q v { s with toks := s.toks + 1 }) :
  wpAny (model prog w) A (getAttr (.ref x) name expr) Q E s := by
 obtain ⟨od, J, hl⟩ := I.look
 exact PySem.W.get_value X J (PySem.W.plainGet_of hg).1 (PySem.W.findObj_own hh ha rfl (by rw [hl, hv])) hv' h
theorem aIu {pl : Sem Bool} {Q : Value × List Value -> Shared -> Prop} (X : K.In s.heap) (I : ObjM s.heap x dx C mA) (hg : PySem.W.plainGet K C name = true)
  (hf : PySem.W.findIn K (.ref C) name = some (some (.ref f))) (ht : PySem.W.isFn K (.ref f) = true) (hv : mA name = none) (h : Q (.ref f, [.ref x]) s) :
  wpAny (model prog w) A (getMethod (.ref x) name pl) Q E s := by
 obtain ⟨od, J, hl⟩ := I.look
 exact PySem.W.method_fn X J (PySem.W.plainGet_of hg).1 (PySem.W.plainGet_of hg).2 hf (beq_iff_eq.mp ht) (by show (PySem.W.lookIn name od).map (·.isSome) = some false; rw [hl, hv]; rfl) h
theorem aLw {ns : List Str} {Q : Unit -> Shared -> Prop} (X : K.In s.heap) (I : ObjM s.heap x dx C mA)
  (hs : PySem.W.findIn K (.ref C) "__setattr__" = some (some (.builtin "object.__setattr__"))) (hp : PySem.W.plainOver K C = true) (ht : PySem.W.takerIn K C name = some none) (hh : PySem.W.hasDictIn K C = true)
  (hw : PySem.Within mA ns) (hsz : ns.length <= sizeLine)
  (h : ∀ h', ObjM h' x dx C (fun y => if y = name then some v else mA y) -> Heap.SameBut dx s.heap h' -> Q () { s with heap := h', toks := s.toks + 2 }) :
  wpAny (model prog w) A (setAttr (.ref x) name v) Q E s := by
 obtain ⟨od, J, hl⟩ := I.look
 refine PySem.W.set_plain X J hs (PySem.W.osa_open (s := { s with toks := s.toks + 1 }) (r := none) X J hp ht fun b => ?_)
 obtain ⟨cd, hc, hd'⟩ := PySem.W.any_some hh
 have hx : s.heap.get? x = some ⟨.ref C, some dx, .plain, #[]⟩ := I.obj
 refine wpAny_bind (wpAny_pure (wpAny_bind (wpAny_bind (wpAny_loadPart hx (wpAny_bind (PySem.W.Looks.here (s := { s with toks := s.toks + 1 }) (PySem.W.looks_clsIn X hc) ?_))))))
 rw [hd']
 refine wpAny_pure (a := some dx) (wpAny_bind (wpAny_pure (wpAny_bind ?_)))
 refine wpAny_nsSet1 (s := { s with toks := s.toks + 1 }) I.ns fun h' hn2 hs2 => ?_
 obtain ⟨oD, esD, epD, hoD, hdD, hcD⟩ := hn2.count (PySem.Within.cons name v hw)
 refine wpAny_bind (wpAny_lookBehind hoD (by rw [hdD]; exact pastItsLine_dict (Nat.le_trans hcD (by rw [List.length_cons]; omega))) ?_)
 exact wpAny_pure (h _ ⟨(hs2.2 _ (Ne.symm I.ne)).trans I.obj, hn2, I.ne⟩ hs2)
theorem aIv {R : Result -> Shared -> Prop} {vs : List Value} {kw : List (Str × Value)} (X : K.In s.heap) (hm : PySem.W.makesIn K C = true)
  (hi : PySem.W.findIn K (.ref C) "__init__" = some (some (.ref f))) (hf : PySem.W.typeIn K (.ref f) = some (.type "function"))
  (h : codeAny (model prog w) (A.under (.builtin "type.__call__" ⟨.ref C :: vs, kw⟩)) (.call (.ref f) ⟨.ref (s.heap.objs.size + 1) :: vs, kw⟩) (PySem.W.InitBack (s.heap.objs.size + 1) R)
   { s with heap := (s.heap.push PySem.W.emptyDict).push (PySem.W.instObj C s.heap.objs.size) }) :
  codeAny (model prog w) A (.call (.ref C) ⟨vs, kw⟩) R s := by
 obtain ⟨hh, g, d, t, os⟩ := s
 exact PySem.W.make_core (PySem.W.makes_of X hm) (PySem.W.looks_findIn X hi) (fun self => PySem.W.bind_fn X self hf) (.inl rfl) h
end
def oJ (f : Str) (v : V) : List (Str × V) -> List (Str × V)
 | [] => [(f, v)]
 | (g, x) :: r => if g = f then (g, v) :: r else (g, x) :: oJ f v r
theorem vG (f g : Str) (v : V) : ∀ fs : List (Str × V), (oJ f v fs).lookup g = if g = f then some v else fs.lookup g
 | [] => by
  show List.lookup g [(f, v)] = _
  by_cases h : g = f
  ·have hb : (g == f) = true := beq_iff_eq.mpr h
   simp only [List.lookup, hb, if_pos h]
  ·have hb : (g == f) = false := beq_eq_false_iff_ne.mpr h
   simp only [List.lookup, hb, if_neg h]
 | (k, x) :: r => by
  have ih := vG f g v r
  rw [show oJ f v ((k, x) :: r) = (if k = f then (k, v) :: r else (k, x) :: oJ f v r) from rfl]
  by_cases hk : k = f
  ·rw [if_pos hk]
   by_cases h : g = k
   ·have hb : (g == k) = true := beq_iff_eq.mpr h
    simp only [List.lookup, hb, if_pos (h.trans hk)]
   ·have hb : (g == k) = false := beq_eq_false_iff_ne.mpr h
    simp only [List.lookup, hb, if_neg (fun e : g = f => h (e.trans hk.symm))]
  ·rw [if_neg hk]
   by_cases h : g = k
   ·have hb : (g == k) = true := beq_iff_eq.mpr h
    simp only [List.lookup, hb, if_neg (fun e : g = f => hk (h.symm.trans e))]
   ·have hb : (g == k) = false := beq_eq_false_iff_ne.mpr h
    simp only [List.lookup, hb]
    exact ih
theorem uI (f : Str) (v : V) : ∀ fs : List (Str × V), f ∈ (oJ f v fs).map (·.1) /\ ∀ g, g ∈ fs.map (·.1) -> g ∈ (oJ f v fs).map (·.1)
 | [] => ⟨by simp [oJ], fun g h => by simp at h⟩
 | (k, x) :: r => by
  obtain ⟨i1, i2⟩ := uI f v r
  rw [show oJ f v ((k, x) :: r) = (if k = f then (k, v) :: r else (k, x) :: oJ f v r) from rfl]
  by_cases hk : k = f
  ·rw [if_pos hk]
   subst hk
   exact ⟨by simp, fun g h => by simpa using h⟩
  ·rw [if_neg hk]
   refine ⟨?_, fun g h => ?_⟩
   ·rw [List.map_cons]
    exact List.mem_cons_of_mem _ i1
   ·rw [List.map_cons] at h ⊢
    rcases List.mem_cons.mp h with e | e
    ·exact List.mem_cons.mpr (.inl e)
    ·exact List.mem_cons_of_mem _ (i2 g e)
theorem vH (f : Str) (v : V) : ∀ fs : List (Str × V), (oJ f v fs).length <= fs.length + 1
 | [] => by simp [oJ]
 | (k, x) :: r => by
  have ih := vH f v r
  rw [show oJ f v ((k, x) :: r) = (if k = f then (k, v) :: r else (k, x) :: oJ f v r) from rfl]
  by_cases hk : k = f
  ·rw [if_pos hk, List.length_cons, List.length_cons]; omega
  ·rw [if_neg hk, List.length_cons, List.length_cons]; omega
theorem oR.some_of {v : V} {o : Option Value} (r : oR (some v) o) : ∃ u, o = some u /\ RelV v u := by
 cases o with
 | none => exact (show False from r).elim
 | some u => exact ⟨u, rfl, r⟩
theorem oR.none_of {o : Option Value} (r : oR none o) : o = none := by
 cases o with
 | none => rfl
 | some u => exact (show False from r).elim
theorem aH8 {v : V} {u : Value} (r : RelV v u) : PySem.W.handedIn u = true := by
 cases v with
 | non => cases (show u = Value.none from r); rfl
 | bl b => cases (show u = Value.bool b from r); rfl
 | int i => obtain ⟨t, e⟩ := (show ∃ t, u = Value.int i t from r); cases e; rfl
 | str x => obtain ⟨t, e⟩ := (show ∃ t, u = Value.str x t from r); cases e; rfl
 | byt b => obtain ⟨t, e⟩ := (show ∃ t, u = Value.bytes b t from r); cases e; rfl
 | flt b => obtain ⟨t, e⟩ := (show ∃ t, u = Value.float b t from r); cases e; rfl
 | ref a => cases (show u = Value.ref a from r); rfl
 | ty n => cases (show u = Value.type n from r); rfl
section
variable {P : Program} {w : World} {H H' : Hp} {h h' : Heap} {a C dx : Addr} {fs fs' : List (Str × V)}
theorem aB5 (hok : HOk P w H h) (e : H a = some (.ins C dx fs)) : ∃ mA, ObjM h a dx C mA /\ (∀ f, oR (fs.lookup f) (mA f)) /\ PySem.Within mA (fs.map (·.1)) /\ fs.length <= 1000 /\ H dx = some (.own a) := by
 obtain ⟨d, z, ne, ob, mA, n, r, q⟩ := (show gD P w H h a (.ins C dx fs) from hok a _ e)
 exact ⟨mA, ⟨ob, n, ne⟩, r, q, z, d⟩
end
structure Cls (K : PySem.W.Frag) (C : Addr) : Prop where
 pg : PySem.W.plainGet K C Str.empty = true
 hd : PySem.W.hasDictIn K C = true
 po : PySem.W.plainOver K C = true
 sa : PySem.W.findIn K (.ref C) "__setattr__" = some (some (.builtin "object.__setattr__"))
theorem Cls.get {K : PySem.W.Frag} {C : Addr} (c : Cls K C) (f : Str) : PySem.W.plainGet K C f = true := c.pg
def cX (K : PySem.W.Frag) (C : Addr) (f : Str) : Prop := PySem.W.findIn K (.ref C) f = some none
theorem cX.taker {K : PySem.W.Frag} {C : Addr} {f : Str} (n : cX K C f) : PySem.W.takerIn K C f = some none := by
 unfold PySem.W.takerIn
 rw [show PySem.W.findIn K (.ref C) f = some none from n]
 rfl
structure Meth (K : PySem.W.Frag) (C : Addr) (m : Str) (f : Addr) : Prop where
 at_ : PySem.W.findIn K (.ref C) m = some (some (.ref f))
 fn : PySem.W.isFn K (.ref f) = true
 kp : PySem.W.keepIn K (.ref f) = true
section
variable {X : Cx} {pins : List (Addr × Obj)} {σ : St} {H : Hp} {s : Shared} {a C dx : Addr} {fs : List (Str × V)} {f : Str} {v : V} {A : Around} {E : Value -> Shared -> Prop}
theorem aE9 {b : Bool} {Q : Value -> Shared -> Prop} (I : Inv X pins σ H s) (e : H a = some (.ins C dx fs)) (c : Cls X.K C) (n : cX X.K C f) (l : fs.lookup f = some v)
  (h : ∀ u s', Inv X pins σ H s' -> RelV v u -> Q u s') : wpAny (model X.prog X.w) A (getAttr (.ref a) f b) Q E s := by
 obtain ⟨mA, O, r, _, _, _⟩ := aB5 I.hok e
 obtain ⟨u, hu, ru⟩ := oR.some_of (v := v) (o := mA f) (by rw [<- l]; exact r f)
 exact aLv I.kIn O (c.get f) c.hd n hu (aH8 ru) (h u _ (I.tok _) ru)
theorem xG {m : Str} {g : Addr} {pl : Sem Bool} {Q : Value × List Value -> Shared -> Prop} (I : Inv X pins σ H s) (e : H a = some (.ins C dx fs)) (c : Cls X.K C) (k : Meth X.K C m g) (l : fs.lookup m = none)
  (h : Q (.ref g, [.ref a]) s) : wpAny (model X.prog X.w) A (getMethod (.ref a) m pl) Q E s := by
 obtain ⟨mA, O, r, _, _, _⟩ := aB5 I.hok e
 have hn : mA m = none := oR.none_of (by rw [<- l]; exact r m)
 exact aIu I.kIn O (c.get m) k.at_ k.fn hn h
theorem aEa {y : V} {u : Value} {Q : Unit -> Shared -> Prop} (I : Inv X pins σ H s) (e : H a = some (.ins C dx fs)) (c : Cls X.K C) (n : cX X.K C f) (hl : fs.length < 1000) (ry : RelV y u)
  (h : ∀ s', Inv X pins σ (upd H a (.ins C dx (oJ f y fs))) s' -> Q () s') : wpAny (model X.prog X.w) A (setAttr (.ref a) f u) Q E s := by
 obtain ⟨mA, O, r, wi, _, ho⟩ := aB5 I.hok e
 have hz : (fs.map (·.1)).length <= sizeLine := by rw [List.length_map, sizeLine_eq]; omega
 refine aLw I.kIn O c.sa c.po n.taker c.hd wi hz fun h' O' sb => h _ ?_
 have hd : ∃ o, h'.get? dx = some o := let ⟨o, _, _, e', _⟩ := O'.ns; ⟨o, e'⟩
 refine I.write (x := a) (e := dx) (by rw [e]; exact True.intro) (.inr ho) (fun b q hb z => (sb.2 b hb).trans z) hd ?_
 refine ⟨by rw [bG O.ne]; exact ho, ?_, O.ne, O'.obj, _, O'.ns, fun g => ?_, fun g hg => ?_⟩
 ·have := vH f y fs; omega
 ·show oR ((oJ f y fs).lookup g) (if g = f then some u else mA g)
  rw [vG]
  by_cases q : g = f
  ·rw [if_pos q, if_pos q]; exact ry
  ·rw [if_neg q, if_neg q]; exact r g
 ·by_cases q : g = f
  ·rw [q]; exact (uI f y fs).1
  ·refine (uI f y fs).2 g (wi g fun z => hg ?_)
   show (if g = f then some u else mA g) = none
   rw [if_neg q]; exact z
theorem Inv.made (I : Inv X pins σ H s) : Inv X pins σ (upd (upd H s.heap.objs.size (.own (s.heap.objs.size + 1))) (s.heap.objs.size + 1) (.ins C s.heap.objs.size []))
  { s with heap := (s.heap.push PySem.W.emptyDict).push (PySem.W.instObj C s.heap.objs.size) } := by
 have e1 : (s.heap.push PySem.W.emptyDict).get? s.heap.objs.size = some PySem.W.emptyDict := Heap.get?_push_size s.heap rfl
 have e2 : ((s.heap.push PySem.W.emptyDict).push (PySem.W.instObj C s.heap.objs.size)).get? (s.heap.objs.size + 1) = some (PySem.W.instObj C s.heap.objs.size) := by
  have := Heap.get?_push_size (s.heap.push PySem.W.emptyDict) (o := PySem.W.instObj C s.heap.objs.size) rfl
  rwa [Heap.size_push] at this
 have e3 : (s.heap.push PySem.W.emptyDict).Ns s.heap.objs.size (fun _ => none) := ⟨PySem.W.emptyDict, #[], _, e1, rfl, (fun e he => absurd he (by simp)), fun _ => rfl⟩
 have I1 := I.laid (a := s.heap.objs.size) (o := .own (s.heap.objs.size + 1)) (h' := s.heap.push PySem.W.emptyDict) (t' := s.toks) (fun b u q => Heap.get?_push_of_some _ q) (Nat.le_refl _) ⟨_, e1⟩
 refine I1.laid (a := s.heap.objs.size + 1) (o := .ins C s.heap.objs.size []) (t' := s.toks) (fun b u q => Heap.get?_push_of_some _ q) (Nat.le_of_eq (Heap.size_push _ _)) ?_
 have ne : s.heap.objs.size ≠ s.heap.objs.size + 1 := Nat.ne_of_lt (Nat.lt_succ_self _)
 refine ⟨by rw [bG ne, bV], Nat.zero_le _, ne, e2, fun _ => none, (Heap.Ns1.of_empty e3).at fun o q => Heap.get?_push_of_some _ q, fun _ => True.intro, fun y hy => absurd rfl hy⟩
theorem aLx {prog : Program} {w : World} {env : Env} {e : Expr} {f : Str} {pos : Pos} {s : Shared} {Q : Value -> Shared -> Prop} (hb : attributeBase e f env (eval e env) = eval e env)
  (h : wpAny (model prog w) A (eval e env) (fun o s₁ => wpAny (model prog w) A (getAttr o f true) Q E s₁) E s) : wpAny (model prog w) A (eval (.Attribute e f pos) env) Q E s :=
 Attribute_any_ h (by rw [arm_eval_Attribute, hb])
end
def aWq (K : PySem.W.Frag) (ta : TE) (f : Str) : TE := fun σ H Q => ta σ H fun x H1 => ∃ a C dx fs v, x = .ref a /\ H1 a = some (.ins C dx fs) /\ Cls K C /\ cX K C f /\ fs.lookup f = some v /\ Q v H1
def aWr (K : PySem.W.Frag) (ta tv : TE) (f : Str) : TS := fun D σ H => tv σ H fun y H1 => ta σ H1 fun x H2 => ∃ a C dx fs, x = .ref a /\ H2 a = some (.ins C dx fs) /\ Cls K C /\ cX K C f /\ fs.length < 1000 /\
 D.nx σ (upd H2 a (.ins C dx (oJ f y fs)))
section
variable {X : Cx} {o e value : Expr} {f : Str} {pos pos' tpos : Pos} {ta tv : TE}
theorem aPo (he : PE X e ta) (hb : attributeBase e f X.env (eval e X.env) = eval e X.env) : PE X (.Attribute e f pos) (aWq X.K ta f) := by
 intro pins s σ H Q I h
 refine aLx hb (thn (he pins s σ H _ I h) fun u s1 ⟨x, H1, I1, rx, a, C, dx, fs, v, ex, ea, c, n, l, q⟩ => ?_)
 subst ex
 obtain rfl : u = Value.ref a := rx
 exact aE9 I1 ea c n l fun u' s2 I2 ru => ⟨v, H1, I2, ru, q⟩
theorem aPp (ha : PE X o ta) (hv : PE X value tv) (hs : swapsWith value (some (.Attribute o f pos')) pos.line X.env = pure false) : PS X (.Assign [.Attribute o f pos'] value pos) (aWr X.K ta tv f) := by
 intro pins s σ H D I h
 refine plainObj_wpAny_Assign_Attribute (thn (hv pins s σ H _ I h) fun u s1 ⟨y, H1, I1, ry, q⟩ => thn (ha pins s1 σ H1 _ I1 q) fun ov s2 ⟨x, H2, I2, rx, a, C, dx, fs, ex, ea, c, n, l, q2⟩ => ?_) hs
 subst ex
 obtain rfl : ov = Value.ref a := rx
 exact aEa I2 ea c n l ry fun s3 I3 => ⟨σ, _, I3, q2⟩
end
section
variable {X : Cx} {pins : List (Addr × Obj)} {σ : St} {H : Hp} {s : Shared} {A : Around} {E : Value -> Shared -> Prop} {Q : Value -> Shared -> Prop} {c : Value} {b : Bool}
inductive TyOf (K : PySem.W.Frag) (H : Hp) : V -> Value -> Prop where
 | non : TyOf K H .non (.type "NoneType")
 | bl (x : Bool) : TyOf K H (.bl x) (.type "bool")
 | int (i : Int) : TyOf K H (.int i) (.type "int")
 | str (x : Str) : TyOf K H (.str x) (.type "str")
 | flt (x : UInt64) : TyOf K H (.flt x) (.type "float")
 | lst {a : Addr} {xs : List V} (e : H a = some (.lst xs)) : TyOf K H (.ref a) (.type "list")
 | frz {a : Addr} {o : Obj} {xs : List V} (e : H a = some (.frz o (.lst xs))) : TyOf K H (.ref a) (.type "list")
 | tup {a : Addr} {xs : List V} (e : H a = some (.tup xs)) : TyOf K H (.ref a) (.type "tuple")
 | dK {a : Addr} {kvs : List (Key × V)} (e : H a = some (.dK kvs)) : TyOf K H (.ref a) (.type "dict")
 | dT {a : Addr} {kvs : List (List Key × V)} (e : H a = some (.dT kvs)) : TyOf K H (.ref a) (.type "dict")
 | ins {a C dx : Addr} {fs : List (Str × V)} (e : H a = some (.ins C dx fs)) (cl : Cls K C) (ha : PySem.W.findIn K (.ref C) "__class__" = some (some (.builtin "object.__class__")))
   (hn : PySem.W.specialIn K (.builtin "object.__class__") "__get__" = some (some (.builtin "getset_descriptor.__get__"))) (htk : PySem.W.takesIn K (.builtin "object.__class__") = some true)
   (hm : PySem.W.mroIn K C (.type "object") = some true) : TyOf K H (.ref a) (.ref C)
end
end L2
namespace L2
open PySem PySem.Spec PyProof.Rows
structure Room (k : Nat) (A : Around) : Prop where
 hd : A.handled = none
 dp : A.depth + 3 * k + 5 < recursionLimit
 un : A.units + 16 * k + 200 < cLine
theorem Room.mono {j k : Nat} {A : Around} (r : Room k A) (h : j <= k) : Room j A := ⟨r.hd, by have := r.dp; omega, by have := r.un; omega⟩
theorem Room.deeper {k : Nat} {A : Around} (r : Room (k + 1) A) (env : Env) : Room k (A.deeper env) :=
 ⟨r.hd, by have := r.dp; show A.depth + 1 + 3 * k + 5 < _; omega, by have := r.un; show A.units + 3 + 16 * k + 200 < _; omega⟩
theorem aEb {A : Around} {C : Addr} {us : List Value} {kw : List (Str × Value)} : (A.under (.builtin "type.__call__" ⟨.ref C :: us, kw⟩)).depth = A.depth + 1 := by
 first | rfl | simp [Around.under, Code.weight, Code.isCreation, Code.isGuard, Code.isCaller, Code.frames, Code.isFrame, guardIds]
theorem aEc {A : Around} {C : Addr} {us : List Value} {kw : List (Str × Value)} : (A.under (.builtin "type.__call__" ⟨.ref C :: us, kw⟩)).units = A.units + 1 := by
 first | rfl | simp [Around.under, Code.cUnits, Code.frames, Code.isFrame]
theorem Room.make {k : Nat} {A : Around} (r : Room (k + 1) A) (C : Addr) (us : List Value) (kw : List (Str × Value)) : Room k (A.under (.builtin "type.__call__" ⟨.ref C :: us, kw⟩)) :=
 ⟨r.hd, by have := r.dp; rw [aEb]; omega, by have := r.un; rw [aEc]; omega⟩
theorem Room.depth {k : Nat} {A : Around} (r : Room k A) : A.depth < recursionLimit := by have := r.dp; omega
theorem Room.units {k : Nat} {A : Around} (r : Room k A) : A.units + 64 < cLine := by have := r.un; omega
def aWs : TA := fun _ H Q => Q [] H
def aT2 (ta : TE) (tr : TA) : TA := fun σ H Q => ta σ H fun x H1 => tr σ H1 fun xs H2 => Q (x :: xs) H2
section
variable {X : Cx} {e : Expr} {es : List Expr} {te : TE} {t : TA} {pos : Pos}
theorem fK : PA X [] aWs := fun _ _ _ _ H Q I h => Calls.spliced_nil ⟨[], H, I, .nil, h⟩
theorem cW (ha : PE X e te) (hr : PA X es t) (hs : starEach (e :: es) X.env = (false, eval e X.env) :: starEach es X.env := by rfl) : PA X (e :: es) (aT2 te t) := by
 intro pos pins s σ H Q I h
 rw [hs]
 show wpAny _ _ (spliced ((false, eval e X.env) :: backTo pos (starEach es X.env))) _ _ s
 refine Calls.spliced_cons (thn (ha pins s σ H _ I h) fun u s1 ⟨x, H1, I1, r1, q1⟩ => ?_)
 exact thn (hr pos pins s1 σ H1 _ I1 q1) fun us s2 ⟨xs, H2, I2, r2, q2⟩ => ⟨x :: xs, H2, I2, .cons r1 r2, q2⟩
def aWt (t : TA) : TE := fun σ H Q => t σ H fun xs H1 => xs.length <= sizeLine /\ ∀ p, H1 p = none -> Q (.ref p) (upd H1 p (.tup xs))
def aWu (t : TA) : TE := fun σ H Q => t σ H fun xs H1 => xs.length <= sizeLine /\ ∀ p, H1 p = none -> Q (.ref p) (upd H1 p (.lst xs))
theorem aPq {x1} (h : PA X es t) : PE X (.Tuple es x1 pos) (aWt t) := by
 intro pins s σ H Q I hq
 refine wpAny_Tuple_spliced (thn (h pos pins s σ H _ I hq) fun us s1 ⟨xs, H1, I1, r, z, q⟩ => ⟨by rw [<- r.length]; exact z, ?_⟩)
 have hf : H1 s1.heap.objs.size = none := I1.hok.fresh (Nat.le_refl _)
 refine ⟨.ref s1.heap.objs.size, upd H1 s1.heap.objs.size (.tup xs), I1.laid (t' := s1.toks) (fun b u e => Heap.get?_push_of_some _ e) (Nat.le_refl _) ?_, rfl, q _ hf⟩
 exact ⟨z, us, r, ⟨_, Heap.get?_push_size _ rfl, rfl, _, rfl⟩⟩
theorem aIw (h : PA X es t) : PE X (.List es pos) (aWu t) := by
 intro pins s σ H Q I hq
 refine wpAny_List_spliced (thn (h pos pins s σ H _ I hq) fun us s1 ⟨xs, H1, I1, r, z, q⟩ => ⟨by rw [<- r.length]; exact z, ?_⟩)
 have hf : H1 s1.heap.objs.size = none := I1.hok.fresh (Nat.le_refl _)
 refine ⟨.ref s1.heap.objs.size, upd H1 s1.heap.objs.size (.lst xs), I1.laid (t' := s1.toks) (fun b u e => Heap.get?_push_of_some _ e) (Nat.le_refl _) ?_, rfl, q _ hf⟩
 exact ⟨z, us, 0, r, Heap.get?_push_size _ rfl⟩
end
abbrev Sp := List V -> Hp -> VK -> XK -> Prop
abbrev CXT := List Env -> Hp -> Shared -> XK -> Value -> Shared -> Prop
structure Env0 (P : Program) (w : World) (K : PySem.W.Frag) (mg : Str -> Option Value) (base : Heap) (A : Around) (outer : List Env) (s : Shared) (H : Hp) : Prop where
 frames : A.frames = some outer
 mod : Mod K mg base
 bs : ∀ b o, base.get? b = some o -> s.heap.get? b = some o /\ H b = none
 bsz : base.objs.size <= s.heap.objs.size
 funs : s.heap.FunFrames base outer
 frf : ∀ b ∈ frs outer, H b = none
 hok : HOk P w H s.heap
 bare : AllBare s.gens
def CE (outer : List Env) (P : Program) (w : World) (H : Hp) (s : Shared) (Q : VK) (u : Value) (s' : Shared) : Prop :=
 ∃ v H', s'.os = s.os /\ AllBare s'.gens /\ Un (frs outer) [] H H' s.heap s'.heap /\ HOk P w H' s'.heap /\ RelV v u /\ Q v H'
def CR (CX : CXT) (outer : List Env) (P : Program) (w : World) (H : Hp) (s : Shared) (Q : VK) (E : XK) (r : Result) (s' : Shared) : Prop :=
 match r with
 | .ok (.ret u) => CE outer P w H s Q u s'
 | .ok _ => False
 | .error e => CX outer H s E e s'
structure FnOk (P : Program) (w : World) (K : PySem.W.Frag) (mg : Str -> Option Value) (base : Heap) (CX : CXT) (k : Nat) (f : Addr) (fd : FuncData) (ps : List Str) (sp : Sp) : Prop where
 len : ∀ vs H Q E, sp vs H Q E -> vs.length = ps.length
 run : ∀ (A : Around) (outer : List Env) (s : Shared) (H : Hp) (args : Args) (us : List Value) (vs : List V) (Q : VK) (E : XK), Room k A -> Env0 P w K mg base A outer s H -> BindsTo s fd args (ps.zip us) -> Vals vs us -> sp vs H Q E ->
  codeAny (model P w) A (.call (.ref f) args) (CR CX outer P w H s Q E) s
theorem Env0.make {P : Program} {w : World} {K : PySem.W.Frag} {mg : Str -> Option Value} {base : Heap} {A : Around} {outer : List Env} {s : Shared} {H : Hp} (e : Env0 P w K mg base A outer s H) (C : Addr) (us : List Value) (kw : List (Str × Value)) :
  Env0 P w K mg base (A.under (.builtin "type.__call__" ⟨.ref C :: us, kw⟩)) outer s H := ⟨by first | exact e.frames | (simpa [Around.under, Code.envs, Code.isFrame, pushEnvs] using e.frames), e.mod, e.bs, e.bsz, e.funs, e.frf, e.hok, e.bare⟩
section
variable {X : Cx} {pins : List (Addr × Obj)} {σ : St} {H : Hp} {s s' : Shared}
theorem Inv.env0 (I : Inv X pins σ H s) : Env0 X.prog X.w X.K X.mg X.base X.A X.stack s H :=
 ⟨I.ok.frames, I.ok.mod, I.bs, Nat.le_trans I.ok.bsz I.sz, I.stack, I.stkFree, I.hok, I.bare⟩
theorem Inv.after {Q : VK} {u : Value} (I : Inv X pins σ H s) (h : CE X.stack X.prog X.w H s Q u s') : EP X pins σ Q u s' := by
 obtain ⟨v, H', os, bare, un, hok, r, q⟩ := h
 obtain ⟨hh, g, d, t, os'⟩ := s'
 obtain rfl : os' = s.os := os
 exact ⟨v, H', I.call (h' := hh) (g' := g) (d' := d) (t' := t) (ch := []) un hok bare (fun b z => absurd z (by simp)), r, q⟩
end
def aT3 (sp : Sp) (dvs : List V) (E : XK) (t : TA) : TE := fun σ H Q => t σ H fun vs H1 => sp (vs ++ dvs) H1 Q E
def aT4 (C : Addr) (m : Str) (sp : Sp) (dvs : List V) (E : XK) (ta : TE) (t : TA) : TE := fun σ H Q => ta σ H fun x H1 => ∃ a dx fs, x = .ref a /\ H1 a = some (.ins C dx fs) /\ fs.lookup m = none /\
 t σ H1 fun vs H2 => sp (x :: (vs ++ dvs)) H2 Q E
def aT5 (C : Addr) (sp : Sp) (dvs : List V) (E : XK) (t : TA) : TE := fun σ H Q => t σ H fun vs H1 => ∀ x dx, H1 x = none -> H1 dx = none -> dx ≠ x ->
 sp (.ref x :: (vs ++ dvs)) (upd (upd H1 dx (.own x)) x (.ins C dx [])) (fun v H2 => v = .non /\ Q (.ref x) H2) E
def Binds (K : PySem.W.Frag) (fd : FuncData) (ps : List Str) (ds : List Value) : Prop :=
 ∀ (s : Shared) (us : List Value), K.In s.heap -> (us ++ ds).length = ps.length -> BindsTo s fd ⟨us, []⟩ (ps.zip (us ++ ds))
theorem Binds.all {K : PySem.W.Frag} {fd : FuncData} {ps : List Str} (h : ∀ us : List Value, us.length = ps.length -> bindArgs fd ⟨us, []⟩ = pure (ps.zip us)) : Binds K fd ps [] := fun s us _ hl => by
 rw [List.append_nil] at hl ⊢
 exact .of_eq (h us hl)
def uJ (CX : CXT) (X : Cx) (E : XK) : Prop := ∀ (pins : List (Addr × Obj)) (σ : St) (H : Hp) (s : Shared) (e : Value) (s' : Shared), Inv X pins σ H s -> CX X.stack H s E e s' -> X.xe e s'
section
variable {X : Cx} {CX : CXT} {k : Nat} {f C : Addr} {fd : FuncData} {ps : List Str} {sp : Sp} {dvs : List V} {ds : List Value} {E : XK} {x m : Str} {p pos apos : Pos} {e o : Expr} {es : List Expr} {ta : TE} {t : TA}
theorem aIx {pins : List (Addr × Obj)} {σ : St} {H : Hp} {s : Shared} {Q : VK} {us : List Value} {vs : List V} (F : FnOk X.prog X.w X.K X.mg X.base CX k f fd ps sp) (hr : Room k X.A) (hb : Binds X.K fd ps ds) (hd : Vals dvs ds) (hx : uJ CX X E)
  (I : Inv X pins σ H s) (r : Vals vs us) (h : sp (vs ++ dvs) H Q E) : wpAny (model X.prog X.w) X.A (call (.ref f) us) (EP X pins σ Q) X.xe s := by
 have r2 : Vals (vs ++ dvs) (us ++ ds) := r.append hd
 have hl : (us ++ ds).length = ps.length := by rw [<- r2.length]; exact F.len _ _ _ _ h
 refine wpAny_call (codeAny_mono (F.run X.A X.stack s H ⟨us, []⟩ (us ++ ds) (vs ++ dvs) Q E hr I.env0 (hb s us I.kIn hl) r2 h) fun r s' hq => ?_)
 cases r with
 | error e => exact hx pins σ H s e s' I hq
 | ok fl =>
  cases fl with
  | ret u => exact I.after hq
  | next => exact False.elim hq
  | brk => exact False.elim hq
  | cont => exact False.elim hq
theorem aB6 (F : FnOk X.prog X.w X.K X.mg X.base CX k f fd ps sp) (hr : Room k X.A) (hg : Gl X x) (hm : X.mg x = some (.ref f)) (hk : PySem.W.keepIn X.K (.ref f) = true) (hb : Binds X.K fd ps ds) (hd : Vals dvs ds) (hx : uJ CX X E)
  (ha : PA X (e :: es) t) (hdb : (x == ("__debug__" : Str)) = false := by decide) (he : starEach (e :: es) X.env = (false, eval e X.env) :: starEach es X.env := by rfl) (hpl : (backTo pos (starEach es X.env)).any (·.1) = false := by rfl) :
  PE X (.Call (.Name x p) (e :: es) [] pos) (aT3 sp dvs E t) := by
 intro pins s σ H Q I h
 refine wpAny_Call_Name_kw (wJ I hg hm ?_ hdb)
 refine PySem.W.callWith_K (h₀ := X.base) I.ok.mod.kin hk (thn (ha pos pins s σ H _ I h) fun us s1 ⟨vs, H1, I1, r, q⟩ => ⟨I1.kIn, ?_⟩) he hpl
 exact aIx F hr hb hd hx I1 r q
theorem aFi {pl : Sem Bool} (he : PE X o ta) (c : Cls X.K C) (hm : Meth X.K C m f) (F : FnOk X.prog X.w X.K X.mg X.base CX k f fd ps sp) (hr : Room k X.A) (hb : Binds X.K fd ps ds) (hd : Vals dvs ds) (hx : uJ CX X E) (ha : PA X (e :: es) t)
  (hst : starEach (e :: es) X.env = (false, eval e X.env) :: starEach es X.env := by rfl) (hpl : (backTo pos (starEach es X.env)).any (·.1) = false := by rfl)
  (ht : eval (.Call (.Attribute o m apos) (e :: es) [] pos) X.env = (do
   let ov <- eval o X.env
   standAt apos.atName
   let (f, first) <- holding [ov] (getMethod ov m pl)
   callWith pos f first (backTo pos (starEach (e :: es) X.env)) (backToKw pos (keywordEach [] X.env))) := by rfl) :
  PE X (.Call (.Attribute o m apos) (e :: es) [] pos) (aT4 C m sp dvs E ta t) := by
 intro pins s σ H Q I h
 refine PySem.W.methodCall_KW (pl := pl) (thn (he pins s σ H _ I h) fun u s1 ⟨x, H1, I1, rx, a, dx, fs, ex, ea, l, q⟩ => ?_) ht
 subst ex
 obtain rfl : u = Value.ref a := rx
 refine xG I1 ea c hm l ?_
 refine PySem.W.callWith_K (first := [.ref a]) (h₀ := X.base) I.ok.mod.kin hm.kp (thn (ha pos pins s1 σ H1 _ I1 q) fun us s2 ⟨vs, H2, I2, r, q2⟩ => ⟨I2.kIn, ?_⟩) hst hpl
 exact aIx (us := .ref a :: us) (vs := .ref a :: vs) F hr hb hd hx I2 (.cons rfl r) q2
structure Mk (K : PySem.W.Frag) (C f : Addr) : Prop where
 makes : PySem.W.makesIn K C = true
 init : PySem.W.findIn K (.ref C) "__init__" = some (some (.ref f))
 fn : PySem.W.isFn K (.ref f) = true
 kp : PySem.W.keepIn K (.ref C) = true
theorem aIy {pins : List (Addr × Obj)} {σ : St} {H : Hp} {s : Shared} {Q : VK} {us : List Value} {vs : List V} (M : Mk X.K C f) (F : FnOk X.prog X.w X.K X.mg X.base CX k f fd ps sp) (hr : Room (k + 1) X.A) (hb : Binds X.K fd ps ds) (hd : Vals dvs ds)
  (hx : uJ CX X E) (I : Inv X pins σ H s) (r : Vals vs us)
  (h : ∀ x dx, H x = none -> H dx = none -> dx ≠ x -> sp (.ref x :: (vs ++ dvs)) (upd (upd H dx (.own x)) x (.ins C dx [])) (fun v H2 => v = .non /\ Q (.ref x) H2) E) :
  wpAny (model X.prog X.w) X.A (call (.ref C) us) (EP X pins σ Q) X.xe s := by
 have hq := h (s.heap.objs.size + 1) s.heap.objs.size (I.hok.fresh (Nat.le_succ _)) (I.hok.fresh (Nat.le_refl _)) (Nat.ne_of_lt (Nat.lt_succ_self _))
 have I2 := Inv.made (C := C) I
 have r2 : Vals (V.ref (s.heap.objs.size + 1) :: (vs ++ dvs)) (Value.ref (s.heap.objs.size + 1) :: (us ++ ds)) := .cons rfl (r.append hd)
 have hl : (Value.ref (s.heap.objs.size + 1) :: us ++ ds).length = ps.length := by
  have e := r2.length
  rw [F.len _ _ _ _ hq] at e
  exact e.symm
 refine wpAny_call (aIv (f := f) I.kIn M.makes M.init (beq_iff_eq.mp M.fn) (codeAny_mono (F.run _ X.stack _ _ ⟨Value.ref (s.heap.objs.size + 1) :: us, []⟩ (Value.ref (s.heap.objs.size + 1) :: (us ++ ds)) _ _ E (hr.make C us [])
  (I2.env0.make C us []) (hb _ (Value.ref (s.heap.objs.size + 1) :: us) I2.kIn hl) r2 hq) fun r s' hq' => ?_))
 cases r with
 | error e => exact hx pins σ _ _ e s' I2 hq'
 | ok fl =>
  cases fl with
  | ret u =>
   obtain ⟨v, H', I3, rv, ev, q3⟩ := I2.after hq'
   subst ev
   exact ⟨rv, ⟨V.ref (s.heap.objs.size + 1), H', I3, rfl, q3⟩⟩
  | next => exact False.elim hq'
  | brk => exact False.elim hq'
  | cont => exact False.elim hq'
theorem aLy (M : Mk X.K C f) (F : FnOk X.prog X.w X.K X.mg X.base CX k f fd ps sp) (hr : Room (k + 1) X.A) (hg : Gl X x) (hm : X.mg x = some (.ref C)) (hb : Binds X.K fd ps ds) (hd : Vals dvs ds) (hx : uJ CX X E)
  (ha : PA X (e :: es) t) (hdb : (x == ("__debug__" : Str)) = false := by decide) (he : starEach (e :: es) X.env = (false, eval e X.env) :: starEach es X.env := by rfl) (hpl : (backTo pos (starEach es X.env)).any (·.1) = false := by rfl) :
  PE X (.Call (.Name x p) (e :: es) [] pos) (aT5 C sp dvs E t) := by
 intro pins s σ H Q I h
 refine wpAny_Call_Name_kw (wJ I hg hm ?_ hdb)
 refine PySem.W.callWith_K (h₀ := X.base) I.ok.mod.kin M.kp (thn (ha pos pins s σ H _ I h) fun us s1 ⟨vs, H1, I1, r, q⟩ => ⟨I1.kIn, ?_⟩) he hpl
 exact aIy M F hr hb hd hx I1 r q
end
section
variable {X : Cx} {CX : CXT} {k : Nat} {f C : Addr} {fd : FuncData} {ps ks : List Str} {sp : Sp} {E : XK} {x m : Str} {p pos apos kpos : Pos} {e o : Expr} {es : List Expr} {kws : List Keyword} {te ta : TE} {t tk : TA} {nm : Option Str}
variable {g : List Value -> List Value -> List Value} {gV : List V -> List V -> List V}
end
structure FnScope (N P : List Str) (sc : Scope) : Prop where
 kind : sc.kind = .function
 co : sc.isCoroutine = false
 gen : sc.isGenerator = false
 nd : N.Nodup
 pre : N.take P.length = P
 par : ∀ x ∈ P, sc.names.lookup x = some .local \/ sc.names.lookup x = some .cell
 nofree : ∀ y ∈ sc.names, y.2 ≠ .free
theorem zQ {kindOf : Str -> Option NameKind} {x : Str} : ∀ {binds : List (Str × Value)} {m : Str -> Option Value}, (∀ v, (x, v) ∉ binds) -> bindL kindOf binds m x = m x
 | [], _, _ => rfl
 | (n, v) :: r, m, h => by
  unfold bindL
  rw [zQ fun w hw => h w (List.mem_cons_of_mem _ hw)]
  split
  ·have : x ≠ n := by rintro rfl; exact h v List.mem_cons_self
   simp [this]
  ·rfl
theorem zR {kindOf : Str -> Option NameKind} {x : Str} : ∀ {binds : List (Str × Value)} {m : Str -> Option Value}, (∀ v, (x, v) ∉ binds) -> bindC kindOf binds m x = m x
 | [], _, _ => rfl
 | (n, v) :: r, m, h => by
  unfold bindC
  rw [zR fun w hw => h w (List.mem_cons_of_mem _ hw)]
  split
  ·rfl
  ·have : x ≠ n := by rintro rfl; exact h v List.mem_cons_self
   simp [this]
theorem zT {kindOf : Str -> Option NameKind} {x : Str} {v : Value} : ∀ {P : List Str} {vs : List Value} {i : Nat} {m : Str -> Option Value}, P.Nodup -> P[i]? = some x -> vs[i]? = some v -> kindOf x = some .local ->
  bindL kindOf (P.zip vs) m x = some v
 | [], _, _, _, _, h, _, _ => by simp at h
 | _ :: _, [], _, _, _, _, h, _ => by simp at h
 | p :: P, w :: vs, 0, m, nd, h1, h2, hk => by
  simp at h1 h2; subst h1; subst h2
  show bindL kindOf ((p, w) :: P.zip vs) m p = _
  unfold bindL
  rw [zQ fun v hv => (List.nodup_cons.mp nd).1 (List.of_mem_zip hv).1, if_pos hk]
  simp
 | p :: P, w :: vs, i + 1, m, nd, h1, h2, hk => by
  show bindL kindOf ((p, w) :: P.zip vs) m x = _
  unfold bindL
  exact zT (i := i) (List.nodup_cons.mp nd).2 (by simpa using h1) (by simpa using h2) hk
theorem zU {kindOf : Str -> Option NameKind} {x : Str} {v : Value} : ∀ {P : List Str} {vs : List Value} {i : Nat} {m : Str -> Option Value}, P.Nodup -> P[i]? = some x -> vs[i]? = some v -> kindOf x ≠ some .local ->
  bindC kindOf (P.zip vs) m x = some v
 | [], _, _, _, _, h, _, _ => by simp at h
 | _ :: _, [], _, _, _, _, h, _ => by simp at h
 | p :: P, w :: vs, 0, m, nd, h1, h2, hk => by
  simp at h1 h2; subst h1; subst h2
  show bindC kindOf ((p, w) :: P.zip vs) m p = _
  unfold bindC
  rw [zR fun v hv => (List.nodup_cons.mp nd).1 (List.of_mem_zip hv).1, if_neg hk]
  simp
 | p :: P, w :: vs, i + 1, m, nd, h1, h2, hk => by
  show bindC kindOf ((p, w) :: P.zip vs) m x = _
  unfold bindC
  exact zU (i := i) (List.nodup_cons.mp nd).2 (by simpa using h1) (by simpa using h2) hk
def start (N : List Str) (vs : List V) : St := vs.map some ++ List.replicate (N.length - vs.length) none
def rZ (CX : CXT) (P : Program) (w : World) (K : PySem.W.Frag) (mg : Str -> Option Value) (base : Heap) (N : List Str) (qual : Str) (scope : Scope) (f : Addr) (cd : Value) (A : Around) (outer : List Env) (s : Shared) (H : Hp) (E : XK) : Cx where
 prog := P
 w := w
 K := K
 mg := mg
 base := base
 A := A.deeper (envOfC qual scope s.heap.objs.size f cd)
 N := N
 s₀ := s
 H₀ := H
 env := envOfC qual scope s.heap.objs.size f cd
 outer := outer
 stack := envOfC qual scope s.heap.objs.size f cd :: outer
 ex := []
 calm := true
 fn := fun _ => true
 pn := []
 xe := fun e s' => wpAny (model P w) (A.deeper (envOfC qual scope s.heap.objs.size f cd)) (leaving (envOfC qual scope s.heap.objs.size f cd) e) (fun _ s'' => CX outer H s E e s'') (fun e' s'' => CX outer H s E e' s'') s'
theorem aCk {sc : Scope} {n : Nat} {x : Str} (h : sc.names.lookup x = some .cell) : ∃ c, (cellsFrom n sc.names []).lookup x = some c := by
 have q := PySem.W.cellsFrom_some sc.names n [] (.inl h)
 exact Option.isSome_iff_exists.mp q
theorem aH9 {CX : CXT} {P : Program} {w : World} {K : PySem.W.Frag} {mg : Str -> Option Value} {base : Heap} {N ps : List Str} {qual : Str} {scope : Scope} {f : Addr} {cd : Value} {A : Around} {outer : List Env} {s s1 : Shared} {H : Hp} {E : XK} {us : List Value} {vs : List V}
  (S : FnScope N ps scope) (hd : A.handled = none) (e0 : Env0 P w K mg base A outer s H) (hl : vs.length = ps.length) (r : Vals vs us)
  (x : InCallC s s.heap.objs.size (bindL (envOfC qual scope s.heap.objs.size f cd).kindOf (ps.zip us) fun _ => none) (cellsFrom (s.heap.objs.size + 1) scope.names []) (bindC (envOfC qual scope s.heap.objs.size f cd).kindOf (ps.zip us) fun _ => none) s1) :
  Inv (rZ CX P w K mg base N qual scope f cd A outer s H E) [] (start N vs) H s1 := by
 have hpl : ps.length <= N.length := by have := congrArg List.length S.pre; rw [List.length_take] at this; omega
 obtain ⟨h1, tk, rfl, hk⟩ := x.done
 have noA : ∀ b : Addr, b ∉ (rZ CX P w K mg base N qual scope f cd A outer s H E).ex := fun b z => absurd (show b ∈ ([] : List Addr) from z) (by simp)
 refine ⟨⟨e0.mod, S.kind, rfl, rfl, Nat.le_refl _, fun y z c h1 h2 => ?_, fun y hy => ?_, fun y c _ h => ?_, fun _ => hd, Around.frames_deeper e0.frames, .inr ⟨rfl, rfl⟩, fun b z => absurd z (noA b), e0.bs, e0.bsz, fun b _ _ => noA b, fun b z => absurd z (noA b), e0.funs, e0.frf⟩,
  rfl, e0.bare, Un.kept hk, ⟨_, x.toInCall.ns, fun i y v h1 h2 h3 => ?_⟩, fun y c h => ⟨_, x.cell y c h⟩, e0.hok.fresh (Nat.le_refl _), fun y c h => ?_, fun p hp => absurd (show p ∈ ([] : List (Addr × Obj)) from hp) (by simp), e0.hok.kept hk, ?_⟩
 ·exact name_of_addr x.apart (PySem.mem_of_lookup h1) (PySem.mem_of_lookup h2)
 ·have hy : scope.names.lookup y = some .cell \/ scope.names.lookup y = some .free := hy
  rcases hy with hy | hy
  ·exact aCk hy
  ·exact absurd rfl (S.nofree _ (PySem.mem_of_lookup hy))
 ·exact Nat.le_of_lt (x.above y c (PySem.mem_of_lookup h))
 ·have hi : i < vs.length := by
   unfold start at h2
   by_cases hi : i < vs.length
   ·exact hi
   ·rw [List.getElem?_append_right (by simpa using hi)] at h2
    rw [List.getElem?_replicate] at h2
    split at h2 <;> cases h2
  have ha : vs[i]? = some v := by
   unfold start at h2
   rw [List.getElem?_append_left (by simpa using hi), List.getElem?_map] at h2
   cases e : vs[i]? with
   | none => rw [e] at h2; cases h2
   | some a => rw [e] at h2; cases h2; rfl
  obtain ⟨u, hu, rv⟩ := r.get ha
  have hp : ps[i]? = some y := by
   rw [<- S.pre, List.getElem?_take_of_lt (by omega)]; exact h1
  have ndP : ps.Nodup := by rw [<- S.pre]; exact S.nd.sublist (List.take_sublist _ _)
  refine ⟨u, rv, ?_⟩
  rcases S.par y (List.mem_of_getElem? hp) with k | k
  ·exact .inl ⟨k, zT ndP hp hu k⟩
  ·obtain ⟨c, e⟩ := aCk (n := s.heap.objs.size + 1) k
   refine .inr ⟨.inl k, c, e, ?_⟩
   have q := x.cell y c e
   rw [zU ndP hp hu (by show scope.names.lookup y ≠ _; rw [k]; decide)] at q
   exact q
 ·exact e0.hok.fresh (Nat.le_of_lt (x.above y c (PySem.mem_of_lookup h)))
 ·unfold start
  show _ = N.length
  rw [List.length_append, List.length_map, List.length_replicate]
  omega
theorem aIz {CX : CXT} {P : Program} {w : World} {K : PySem.W.Frag} {mg : Str -> Option Value} {base : Heap} {k : Nat} {f : Addr} {name qual : Str} {params : Arguments} {body : List Stmt} {scope : Scope} {dV kV doc pm cdv ct oc : Value} {an od : Option Addr}
  {osl : Array (Option Value)} {N ps : List Str} {sp : Sp} (lk : K.lookup f = some ⟨oc, od, .func (PySem.W.fnOf name qual params body scope dV kV doc pm an cdv ct), osl⟩) (hcd : PySem.W.codeIn K cdv qual = true) (S : FnScope N ps scope)
  (len : ∀ vs H Q E, sp vs H Q E -> vs.length = ps.length)
  (hbody : ∀ (A : Around) (outer : List Env) (s : Shared) (H : Hp) (vs : List V) (Q : VK) (E : XK), Room k (A.deeper (envOfC qual scope s.heap.objs.size f cdv)) -> sp vs H Q E ->
   ∃ t, PSs (rZ CX P w K mg base N qual scope f cdv A outer s H E) body t /\ t { nx := fun _ H' => Q .non H', rt := Q } (start N vs) H) :
  FnOk P w K mg base CX (k + 1) f (PySem.W.fnOf name qual params body scope dV kV doc pm an cdv ct) ps sp := by
 refine ⟨len, fun A outer s H args us vs Q E hr e0 hb r hsp => ?_⟩
 have hl := len _ _ _ _ hsp
 have KX : K.In s.heap := e0.mod.kin.keeps fun b o e => (e0.bs b o e).1
 have lim : s.heap.NoLimit := e0.mod.nolimit.keeps fun b o e => (e0.bs b o e).1
 have hkind : ∀ y ∈ ps.zip us, scope.names.lookup y.1 = some .local \/ (scope.names.lookup y.1 = some .cell /\ ((cellsFrom (s.heap.objs.size + 1) scope.names []).lookup y.1).isSome = true) := fun ⟨n, v⟩ hy => by
  rcases S.par n (List.of_mem_zip hy).1 with q | q
  ·exact .inl q
  ·exact .inr ⟨q, PySem.W.cellsFrom_some _ _ _ (.inl q)⟩
 refine codeAny_call_function hr.depth (KX _ _ lk) rfl S.co S.gen rfl (PySem.W.codeRec_of KX hcd) (hb _ _ _ _ ?_)
 refine wpAny_newFunctionEnv_cells S.kind hkind fun env he s1 x => ?_
 subst he
 refine ⟨lim.keeps x.toInCall.keep, codeAny_func ?_⟩
 obtain ⟨t, ht, hq⟩ := hbody A outer s H vs Q E (hr.deeper _) hsp
 have I : Inv (rZ CX P w K mg base N qual scope f cdv A outer s H E) [] (start N vs) H s1 := aH9 S hr.hd e0 hl r x
 refine wpAny_mono (ht [] s1 (start N vs) H _ I hq) (fun fl s' hs => ?_) fun e s' hs => hs
 have fin : ∀ {σ' : St} {H' : Hp} {v : V} {u : Value}, Inv (rZ CX P w K mg base N qual scope f cdv A outer s H E) [] σ' H' s' -> RelV v u -> Q v H' -> CE outer P w H s Q u s' :=
  fun {σ' H' v u} J rv q => ⟨v, H', J.os, J.bare, J.base, J.hok, rv, q⟩
 cases fl with
 | ret u =>
  obtain ⟨v, σ', H', J, rv, q⟩ := hs
  exact fin J rv q
 | next =>
  obtain ⟨σ', H', J, q⟩ := hs
  exact fin (v := V.non) (u := Value.none) J rfl q
 | brk =>
  obtain ⟨_, _, _, q⟩ := hs
  exact False.elim q
 | cont =>
  obtain ⟨_, _, _, q⟩ := hs
  exact False.elim q
end L2
namespace L2
open PySem PySem.Spec PyProof.Rows
section
variable {X : Cx} {x : Str} {p pos : Pos} {e : Expr} {es : List Expr} {t : TA} {id T : String} {r : List V -> Hp -> VK -> Prop}
def tCB (r : List V -> Hp -> VK -> Prop) (t : TA) : TE := fun σ H Q => t σ H fun vs H1 => r vs H1 Q
theorem mZ (hc : jV X (.builtin id) r) (hg : Gl X x) (hm : X.mg x = none) (hv : bootBuiltins x = some (.builtin id)) (ha : PA X (e :: es) t) (hn : x ≠ "__name__" := by decide) (hdb : (x == ("__debug__" : Str)) = false := by decide)
  (he : starEach (e :: es) X.env = (false, eval e X.env) :: starEach es X.env := by rfl) (hpl : (backTo pos (starEach es X.env)).any (·.1) = false := by rfl) : PE X (.Call (.Name x p) (e :: es) [] pos) (tCB r t) := by
 intro pins s σ H Q I h
 refine wpAny_Call_Name_kw (rB I hg hm hv ?_ hn hdb)
 exact PyProof.Rows.callWith_builtin1 (thn (ha pos pins s σ H _ I h) fun us s1 ⟨vs, H1, I1, r1, q1⟩ => hc pins s1 σ H1 vs us Q I1 r1 q1) he hpl
theorem uK (hc : jV X (.type T) r) (hg : Gl X x) (hm : X.mg x = none) (hv : bootBuiltins x = some (.type T)) (ha : PA X (e :: es) t) (hn : x ≠ "__name__" := by decide) (hdb : (x == ("__debug__" : Str)) = false := by decide)
  (he : starEach (e :: es) X.env = (false, eval e X.env) :: starEach es X.env := by rfl) (hpl : (backTo pos (starEach es X.env)).any (·.1) = false := by rfl) : PE X (.Call (.Name x p) (e :: es) [] pos) (tCB r t) := by
 intro pins s σ H Q I h
 refine wpAny_Call_Name_kw (rB I hg hm hv ?_ hn hdb)
 exact PyProof.Rows.callWith_type1 (thn (ha pos pins s σ H _ I h) fun us s1 ⟨vs, H1, I1, r1, q1⟩ => hc pins s1 σ H1 vs us Q I1 r1 q1) he hpl
end
end L2
namespace HT
open PySem PyProof.Rows
section
open PySem.SeqAt
open PySem.AutoSeq1 (wpAny_loadPart')
open PySem.MeetsSeq PySem.MeetsSeq2 PySem.MeetsSeq3
end
section
variable {prog : Program} {w : World} {A : Around} {E : Value -> Shared -> Prop} {s : Shared}
def sIx (n d : Nat) : Option Int -> Nat
 | none => d
 | some v => if v < 0 then (v + (n : Int)).toNat else min v.toNat n
theorem sIx_none (n d : Nat) : sIx n d none = d := rfl
theorem sIx_nat (n d k : Nat) : sIx n d (some (k : Int)) = min k n := by
 show (if (k : Int) < 0 then ((k : Int) + (n : Int)).toNat else min (k : Int).toNat n) = min k n
 rw [if_neg (by omega), Int.toNat_natCast]
end
end HT
namespace L2
open PySem PySem.Spec PyProof.Rows
abbrev TO := St -> Hp -> (Option Int -> Hp -> Prop) -> Prop
def PO (X : Cx) (e : Option Expr) (t : TO) : Prop :=
 ∀ (pins : List (Addr × Obj)) (s : Shared) (σ : St) (H : Hp) (Q : Option Int -> Hp -> Prop), Inv X pins σ H s -> t σ H Q ->
  wpAny (model X.prog X.w) X.A (evalPart e X.env) (fun u s' => ∃ o H', Inv X pins σ H' s' /\ IsPart u o /\ Q o H') X.xe s
def aLz : TO := fun _ H Q => Q none H
def aT6 (t : TE) : TO := fun σ H Q => t σ H fun x H1 => ∃ i, x = .int i /\ Q (some i) H1
section
variable {X : Cx} {e : Expr} {te : TE} {lo hi : Option Expr} {tl th : TO} {pos p2 : Pos}
theorem aM0 : PO X none aLz := by
 intro pins s σ H Q I h
 rw [evalPart_none]
 exact wpAny_pure ⟨none, H, I, .none, h⟩
theorem aM1 (h : PE X e te) : PO X (some e) (aT6 te) := by
 intro pins s σ H Q I hw
 rw [evalPart_some]
 refine thn (h pins s σ H _ I hw) fun u s1 ⟨x, H1, I1, r1, q1⟩ => ?_
 obtain ⟨i, rfl, q⟩ := q1
 obtain ⟨t, rfl⟩ := r1
 exact ⟨some i, H1, I1, .int i t, q⟩
def SlR (X : Cx) (r : V -> Option Int -> Option Int -> Hp -> VK -> Prop) : Prop :=
 ∀ (pins : List (Addr × Obj)) (s : Shared) (σ : St) (H : Hp) (x : V) (v vl vu : Value) (lo hi : Option Int) (sl : Addr) (Q : VK), Inv X pins σ H s -> RelV x v -> s.heap.IsSliceOf sl vl vu .none -> IsPart vl lo -> IsPart vu hi -> r x lo hi H Q ->
  ∃ T id, typeLookup (.type T) "__getitem__" = pure (some (.builtin id)) /\ s.TypeIs v T /\ wpAny (model X.prog X.w) X.A (getItem v (.ref sl)) (EP X pins σ Q) X.xe s
theorem SlR.or {r r' : V -> Option Int -> Option Int -> Hp -> VK -> Prop} (h : SlR X r) (h' : SlR X r') : SlR X (fun x lo hi H Q => r x lo hi H Q \/ r' x lo hi H Q) := by
 intro pins s σ H x v vl vu lo hi sl Q I rx hs pl pu q
 rcases q with q | q
 ·exact h pins s σ H x v vl vu lo hi sl Q I rx hs pl pu q
 ·exact h' pins s σ H x v vl vu lo hi sl Q I rx hs pl pu q
def tSl (r : V -> Option Int -> Option Int -> Hp -> VK -> Prop) (te : TE) (tl th : TO) : TE := fun σ H Q => te σ H fun x H1 => tl σ H1 fun l H2 => th σ H2 fun u H3 => r x l u H3 Q
theorem aCl {r : V -> Option Int -> Option Int -> Hp -> VK -> Prop} (hr : SlR X r) (he : PE X e te) (hl : PO X lo tl) (hu : PO X hi th) : PE X (.Subscript e (.Slice lo hi none p2) pos) (tSl r te tl th) := by
 intro pins s σ H Q I h
 refine Subscript_ (thn (he pins s σ H _ I h) fun v s1 ⟨x, H1, I1, r1, q1⟩ => ?_)
 refine wpAny_Slice (thn (hl pins s1 σ H1 _ I1 q1) fun vl s2 ⟨l, H2, I2, pl, q2⟩ => thn (hu pins s2 σ H2 _ I2 q2) fun vu s3 ⟨u, H3, I3, pu, q3⟩ => ?_)
 rw [evalPart_none]
 refine wpAny_pure ?_
 have I4 : Inv X pins σ H3 { s3 with heap := s3.heap.push { cls := .type "slice", data := .fields #[vl, vu, .none] } } := I3.kept (t' := s3.toks) fun b ob q => Heap.get?_push_of_some _ q
 obtain ⟨T, id, hT, ht, hg⟩ := hr pins { s3 with heap := s3.heap.push { cls := .type "slice", data := .fields #[vl, vu, .none] } } σ H3 x v vl vu l u s3.heap.objs.size Q I4 r1 (Heap.IsSliceOf.new ..) pl pu q3
 show wpAny (model X.prog X.w) X.A (subscriptTail e (.Slice lo hi none p2) v (.ref s3.heap.objs.size)) (EP X pins σ Q) X.xe { s3 with heap := s3.heap.push { cls := .type "slice", data := .fields #[vl, vu, .none] } }
 exact tail_any (ops := [.ref s3.heap.objs.size, v]) ht hT hg (by with_unfolding_all rfl)
def aHa (xs : List V) (lo hi : Option Int) : List V := (xs.drop (HT.sIx xs.length 0 lo)).take (HT.sIx xs.length xs.length hi - HT.sIx xs.length 0 lo)
theorem aCm (xs : List V) (lo hi : Option Int) : (aHa xs lo hi).length <= xs.length := by
 unfold aHa
 rw [List.length_take, List.length_drop]
 omega
end
end L2
namespace L2
open PySem PySem.Spec PyProof.Rows
def ixN (n : Nat) (i : Int) : Option Nat := if 0 <= i then (if i < n then some i.toNat else none) else if -(n : Int) <= i then some (i + n).toNat else none
def atI {α : Type} (xs : List α) (i : Int) : Option α := (ixN xs.length i).bind fun j => xs[j]?
theorem aM2 {n : Nat} {i : Int} {j : Nat} (h : ixN n i = some j) : seqIndex? i n = some j /\ j < n /\ -(n : Int) <= i /\ i < n := by
 unfold ixN at h
 by_cases h0 : 0 <= i
 ·rw [if_pos h0] at h
  by_cases h1 : i < n
  ·rw [if_pos h1] at h
   have e : i.toNat = j := Option.some.inj h
   exact ⟨by rw [seqIndex_of h0 h1, e], by omega, by omega, h1⟩
  ·rw [if_neg h1] at h; cases h
 ·rw [if_neg h0] at h
  by_cases h1 : -(n : Int) <= i
  ·rw [if_pos h1] at h
   have e : (i + n).toNat = j := Option.some.inj h
   exact ⟨by rw [seqIndex_neg (by omega) h1, e], by omega, h1, by omega⟩
  ·rw [if_neg h1] at h; cases h
theorem aB7 {α : Type} {xs : List α} {i : Int} {v : α} (h : atI xs i = some v) : ∃ j, seqIndex? i xs.length = some j /\ xs[j]? = some v /\ j < xs.length /\ -(xs.length : Int) <= i /\ i < xs.length := by
 unfold atI at h
 cases e : ixN xs.length i with
 | none => rw [e] at h; cases h
 | some j =>
  rw [e] at h
  obtain ⟨h1, h2, h3, h4⟩ := aM2 e
  exact ⟨j, h1, h, h2, h3, h4⟩
theorem atI_nat {α : Type} {xs : List α} {j : Nat} {v : α} (h : xs[j]? = some v) : atI xs (j : Int) = some v := by
 have hj : j < xs.length := (List.getElem?_eq_some_iff.mp h).1
 have e : ixN xs.length (j : Int) = some j := by
  unfold ixN
  rw [if_pos (by omega), if_pos (by omega)]; simp
 unfold atI; rw [e]; exact h
theorem atI_last {α : Type} (xs : List α) (v : α) : atI (xs ++ [v]) (-1) = some v := by
 have hl : (xs ++ [v]).length = xs.length + 1 := by simp
 have e : ixN (xs ++ [v]).length (-1) = some xs.length := by
  unfold ixN
  rw [hl, if_neg (by decide), if_pos (by omega)]
  congr 1
  omega
 unfold atI
 rw [e]
 show (xs ++ [v])[xs.length]? = some v
 simp
def aB8 (b : Expr) : Prop := ∀ o i, subscripted b false o i = operate [o, i] (getItem o i)
def IxR (X : Cx) (r : R2) : Prop :=
 ∀ (value slice : Expr) (pins : List (Addr × Obj)) (s : Shared) (σ : St) (H : Hp) (x y : V) (v u : Value) (Q : VK), Inv X pins σ H s -> RelV x v -> RelV y u -> r x y H Q ->
  subscripted slice false v u = operate [v, u] (getItem v u) -> wpAny (model X.prog X.w) X.A (subscriptTail value slice v u) (EP X pins σ Q) X.xe s
def MtR (X : Cx) (id : String) (r : V -> List V -> Hp -> VK -> Prop) : Prop :=
 ∀ (pins : List (Addr × Obj)) (s : Shared) (σ : St) (H : Hp) (x : V) (xs : List V) (v : Value) (us : List Value) (Q : VK), Inv X pins σ H s -> RelV x v -> Vals xs us -> r x xs H Q ->
  wpAny (model X.prog X.w) X.A (call (.builtin id) (v :: us)) (EP X pins σ Q) X.xe s
section
variable {X : Cx} {a b : Expr} {ta tb : TE} {pos : Pos}
theorem IxR.or {r r' : R2} (h : IxR X r) (h' : IxR X r') : IxR X (fun x y H Q => r x y H Q \/ r' x y H Q) := by
 intro value slice pins s σ H x y v u Q I rx ry q hs
 rcases q with q | q
 ·exact h value slice pins s σ H x y v u Q I rx ry q hs
 ·exact h' value slice pins s σ H x y v u Q I rx ry q hs
theorem aO0 {r : R2} (hr : IxR X r) (ha : PE X a ta) (hb : PE X b tb) (hs : aB8 b) : PE X (.Subscript a b pos) (tOp r ta tb) := by
 intro pins s σ H Q I h
 exact Subscript_ (aPh ha hb I h fun v u s2 x y H2 I2 rx ry q => hr a b pins s2 σ H2 x y v u Q I2 rx ry q (hs _ _))
def aT7 (K : PySem.W.Frag) : R2 := fun x y H Q => ∃ p xs i v, x = .ref p /\ y = .int i /\ SqL K H p xs /\ atI xs i = some v /\ Q v H
def aT8 (K : PySem.W.Frag) : R2 := fun x y H Q => ∃ p xs i v, x = .ref p /\ y = .int i /\ SqT K H p xs /\ atI xs i = some v /\ Q v H
def aT9 : R2 := fun x y H Q => ∃ z i c, x = .str z /\ y = .int i /\ z.length <= sizeLine /\ atI z.cps.toList i = some c /\ Q (.str ⟨#[c]⟩) H
theorem aM3 : IxR X (aT7 X.K) := by
 intro value slice pins s σ H x y v u Q I rx ry h hs
 obtain ⟨p, xs, i, z, rfl, rfl, hq, he, q⟩ := h
 cases rx
 obtain ⟨t, rfl⟩ := ry
 obtain ⟨its, r, pl, hz⟩ := I.list hq
 obtain ⟨j, h1, h2, h3, h4, h5⟩ := aB7 he
 obtain ⟨w, ew, rw'⟩ := r.get h2
 have hl := r.length
 have hn := xF
 have fin : EP X pins σ Q w s := ⟨z, H, I, rw', q⟩
 by_cases h0 : 0 <= i
 ·have hj : i.toNat = j := by
   rw [seqIndex_of h0 h5] at h1
   exact Option.some.inj h1
  exact item_listR pl.isList h0 (by omega) (by rw [hj]; simpa using ew) fin hs
 ·have hj : (i + (its.toArray.size : Int)).toNat = j := by
   rw [seqIndex_neg (by omega) h4] at h1
   rw [List.size_toArray, <- hl]
   exact Option.some.inj h1
  exact subscriptTail_builtinR (x := w) pl.isList.typeIs slot_list_getitem.lookup
   (wpAny_getItem_list_neg (Q := fun r s' => r = w /\ EP X pins σ Q r s') pl.isList (by omega) (by rw [List.size_toArray] <;> omega) (by omega) (by rw [hj]; simpa using ew) ⟨rfl, fin⟩) hs
theorem aPr : IxR X (aT8 X.K) := by
 intro value slice pins s σ H x y v u Q I rx ry h hs
 obtain ⟨p, xs, i, z, rfl, rfl, hq, he, q⟩ := h
 cases rx
 obtain ⟨t, rfl⟩ := ry
 obtain ⟨its, r, pl, hz⟩ := I.tuple hq
 obtain ⟨j, h1, h2, h3, h4, h5⟩ := aB7 he
 obtain ⟨w, ew, rw'⟩ := r.get h2
 have hl := r.length
 have hn := xF
 have fin : EP X pins σ Q w s := ⟨z, H, I, rw', q⟩
 exact subscriptTail_builtinR (x := w) pl.typeIs slot_tuple_getitem.lookup
  (getItem_tuple (j := j) (Q := fun r s' => r = w /\ EP X pins σ Q r s') pl (by omega) (by omega) (by rw [List.size_toArray, <- hl]; exact h1) (by simpa using ew) ⟨rfl, fin⟩) hs
theorem aPs : IxR X aT9 := by
 intro value slice pins s σ H x y v u Q I rx ry h hs
 obtain ⟨z, i, c, rfl, rfl, hz, he, q⟩ := h
 obtain ⟨t, rfl⟩ := rx
 obtain ⟨t', rfl⟩ := ry
 obtain ⟨j, h1, h2, h3, h4, h5⟩ := aB7 he
 have hl : z.cps.toList.length = z.length := by simp [Str.length]
 rw [hl] at h1 h4 h5
 have hn := xF
 exact tail_any (typeIs_str s z t) slot_str_getitem.lookup (getItem_str (c := c) (by
  have e1 : decide (i < -(2 ^ 63 : Int)) = false := decide_eq_false (by omega)
  have e2 : decide (i ≥ 2 ^ 63) = false := decide_eq_false (by omega)
  rw [e1, e2, Bool.or_false]) (by rw [h1]; simpa using h2) ⟨.str ⟨#[c]⟩, H, I.tok _, ⟨_, rfl⟩, q⟩) hs
def rIx (K : PySem.W.Frag) : R2 := fun x y H Q => aT7 K x y H Q \/ aT8 K x y H Q \/ aT9 x y H Q
theorem aJ0 : IxR X (rIx X.K) := aM3.or (aPr.or aPs)
theorem aB9 (lo hi : Option Int) (n : Nat) : (sliceBounds lo hi none n).1 = ((HT.sIx n 0 lo : Nat) : Int) /\ (sliceBounds lo hi none n).2.1 = ((HT.sIx n n hi : Nat) : Int) /\ (sliceBounds lo hi none n).2.2 = 1 := by
 refine ⟨?_, ?_, rfl⟩
 ·cases lo with
  | none => simp [sliceBounds, HT.sIx]
  | some i =>
   simp only [sliceBounds, HT.sIx, Option.getD_none, show (1 : Int) > 0 by decide, if_true]
   by_cases h : i < 0
   ·simp only [h, if_true] <;> omega
   ·simp only [h, if_false] <;> omega
 ·cases hi with
  | none => simp [sliceBounds, HT.sIx]
  | some i =>
   simp only [sliceBounds, HT.sIx, Option.getD_none, show (1 : Int) > 0 by decide, if_true]
   by_cases h : i < 0
   ·simp only [h, if_true] <;> omega
   ·simp only [h, if_false] <;> omega
theorem zH (its : List Value) (lo hi : Option Int) : slicePick its.toArray lo hi none = ((its.drop (HT.sIx its.length 0 lo)).take (HT.sIx its.length its.length hi - HT.sIx its.length 0 lo)).toArray := by
 obtain ⟨h1, h2, h3⟩ := aB9 lo hi its.toArray.size
 unfold slicePick
 rw [h1, h2, h3]
 simp only [sliceRange_one, pick_run, List.size_toArray] <;> rfl
def aWv (K : PySem.W.Frag) : V -> Option Int -> Option Int -> Hp -> VK -> Prop := fun x lo hi H Q => ∃ a xs, x = .ref a /\ SqL K H a xs /\ ∀ p, H p = none -> Q (.ref p) (upd H p (.lst (aHa xs lo hi)))
theorem aFj : SlR X (aWv X.K) := by
 intro pins s σ H x v vl vu lo hi sl Q I rx hs pl pu h
 obtain ⟨a, xs, rfl, hx, q⟩ := h
 cases rx
 obtain ⟨its, r, ht, hz⟩ := I.list hx
 have hlen := r.length
 refine ⟨"list", _, slot_list_getitem.lookup, ht.isList.typeIs, ?_⟩
 refine wpAny_getItem_list_slice ht.isList hs pl pu .none (by simp) ?_ (by rw [List.size_toArray] <;> omega)
 rw [zH, <- hlen]
 refine ⟨.ref s.heap.objs.size, _, I.laid (t' := s.toks) (o := .lst (aHa xs lo hi)) (fun b ob q => Heap.get?_push_of_some _ q) (Nat.le_refl _) ?_, rfl, q _ (I.hok.fresh (Nat.le_refl _))⟩
 exact ⟨Nat.le_trans (aCm xs lo hi) hz, _, 0, (r.drop (HT.sIx xs.length 0 lo)).take (HT.sIx xs.length xs.length hi - HT.sIx xs.length 0 lo), Heap.get?_push_size _ rfl⟩
theorem aBa : jV X (.builtin "len") (fun xs H Q => ∃ p ys, xs = [.ref p] /\ (SqL X.K H p ys \/ SqT X.K H p ys) /\ Q (.int ys.length) H) := by
 intro pins s σ H xs us Q I r h
 obtain ⟨p, ys, rfl, hq, q⟩ := h
 obtain ⟨u, rfl, rx⟩ := vals1 r
 cases rx
 have hn := xF
 rcases hq with hq | hq
 ·obtain ⟨its, r', pl, hz⟩ := I.list hq
  have hlen := r'.length
  exact Calls.call_len_list pl.isList (by simp only [List.size_toArray] <;> omega) ⟨.int ys.length, H, I.tok _, ⟨s.toks + 1, by rw [List.size_toArray, hlen]⟩, q⟩
 ·obtain ⟨its, r', pl, hz⟩ := I.tuple hq
  have hlen := r'.length
  exact len_tuple pl (by simp only [List.size_toArray] <;> omega) ⟨.int ys.length, H, I.tok _, ⟨s.toks + 1, by rw [List.size_toArray, hlen]⟩, q⟩
theorem aBb : jV X (.builtin "len") (fun xs H Q => ∃ z, xs = [.str z] /\ z.length <= sizeLine /\ Q (.int z.length) H) := by
 intro pins s σ H xs us Q I r h
 obtain ⟨z, rfl, hz, q⟩ := h
 obtain ⟨u, rfl, t, rfl⟩ := vals1 r
 have hn := xF
 exact len_str (by omega) ⟨.int z.length, H, I.tok _, ⟨_, rfl⟩, q⟩
theorem jV.or {f : Value} {r r' : List V -> Hp -> VK -> Prop} (h : jV X f r) (h' : jV X f r') : jV X f (fun xs H Q => r xs H Q \/ r' xs H Q) := by
 intro pins s σ H xs us Q I rs q
 rcases q with q | q
 ·exact h pins s σ H xs us Q I rs q
 ·exact h' pins s σ H xs us Q I rs q
def tyV (K : PySem.W.Frag) (T : String) (x : V) (H : Hp) : Prop := match x with
 | .str _ => T = "str"
 | .int _ => T = "int"
 | .ref p => (T = "list" /\ ∃ xs, SqL K H p xs) \/ (T = "tuple" /\ ∃ o, K.lookup p = some o /\ o.cls = .type "tuple" /\ o.dict = none) \/
   (T = "dict" /\ ((∃ kvs, H p = some (.dK kvs)) \/ ∃ kvs, H p = some (.dT kvs))) \/ (T = "set" /\ ∃ S n, H p = some (.set S n))
 | _ => False
theorem aJ1 {pins : List (Addr × Obj)} {σ : St} {H : Hp} {s : Shared} {T : String} {x : V} {v : Value} (I : Inv X pins σ H s) (r : RelV x v) (ty : tyV X.K T x H) :
  s.TypeIs v T /\ ∀ a, v = .ref a -> ∃ ob, s.heap.get? a = some ob /\ ob.dict = none := by
 cases x with
 | str z =>
  obtain ⟨t, rfl⟩ := r
  cases (show T = "str" from ty)
  exact ⟨typeIs_str s z t, fun _ e => nomatch e⟩
 | int i =>
  obtain ⟨t, rfl⟩ := r
  cases (show T = "int" from ty)
  exact ⟨typeIs_int s i t, fun _ e => nomatch e⟩
 | ref p =>
  cases r
  rcases ty with ⟨rfl, xs, hq⟩ | ⟨rfl, o, hk, hc, hd⟩ | ⟨rfl, hk⟩ | ⟨rfl, S, n, hk⟩
  ·obtain ⟨its, _, pl, _⟩ := I.list hq
   refine ⟨pl.isList.typeIs, fun a e => ?_⟩
   cases e
   obtain ⟨o, n, e, c, hd, _⟩ := pl
   exact ⟨o, e, hd⟩
  ·refine ⟨⟨o, I.kIn p o hk, hc⟩, fun a e => ?_⟩
   cases e
   exact ⟨o, I.kIn _ o hk, hd⟩
  ·have z : ∃ o, s.heap.get? p = some o /\ o.ExactDict := by
    rcases hk with ⟨kvs, hk⟩ | ⟨kvs, hk⟩
    ·obtain ⟨_, _, _, _, o, _, _, e, ex, _⟩ := I.hok p _ hk
     exact ⟨o, e, ex⟩
    ·obtain ⟨_, _, _, _, o, _, _, e, ex, _⟩ := I.hok p _ hk
     exact ⟨o, e, ex⟩
   obtain ⟨o, e, ex⟩ := z
   refine ⟨⟨o, e, ex.1⟩, fun a e2 => ?_⟩
   cases e2
   exact ⟨o, e, ex.2.1⟩
  ·obtain ⟨o, _, _, _, e, ex, _⟩ := I.hok p _ hk
   refine ⟨⟨o, e, ex.1⟩, fun a e2 => ?_⟩
   cases e2
   exact ⟨o, e, ex.2.1⟩
 | _ => exact False.elim ty
def aWw (K : PySem.W.Frag) (T : String) (r : V -> List V -> Hp -> VK -> Prop) (to : TE) : TE := fun σ H Q => to σ H fun x H1 => tyV K T x H1 /\ r x [] H1 Q
def tBM (K : PySem.W.Frag) (T : String) (r : V -> List V -> Hp -> VK -> Prop) (to : TE) (t : TA) : TE := fun σ H Q => to σ H fun x H1 => tyV K T x H1 /\ t σ H1 fun xs H2 => r x xs H2 Q
variable {o e : Expr} {es : List Expr} {to : TE} {t : TA} {name : Str} {apos cpos : Pos} {T id : String} {r : V -> List V -> Hp -> VK -> Prop}
theorem aJ2 (pa : PlainAttrs T) (slot : Slot T name id) (hty : typeOf (.builtin id) = pure (.type "method_descriptor")) (hm : MtR X id r) (ho : PE X o to)
  (hbase : attributeBase o name X.env (eval o X.env) = eval o X.env := by rfl) (hline : (apos.endLine == cpos.line) = true := by rfl) : PE X (.Call (.Attribute o name apos) [] [] cpos) (aWw X.K T r to) := by
 intro pins s σ H Q I h
 refine wpAny_Call_method0_late hbase hline (thn (ho pins s σ H _ I h) fun v s1 ⟨x, H1, I1, r1, ty, q1⟩ => ?_)
 obtain ⟨h1, h2⟩ := aJ1 I1 r1 ty
 exact ⟨T, id, pa, slot, hty, h1, h2, Calls.callWith_builtin rfl (PySem.evalArgs_none (hm pins s1 σ H1 x [] v [] Q I1 r1 .nil q1))⟩
theorem aFk (pa : PlainAttrs T) (slot : Slot T name id) (hty : typeOf (.builtin id) = pure (.type "method_descriptor")) (hm : MtR X id r) (ho : PE X o to) (ha : PA X (e :: es) t)
  (hbase : attributeBase o name X.env (eval o X.env) = eval o X.env := by rfl)
  (hfew : ((backTo cpos (starEach (e :: es) X.env)).all (fun x => !x.1) && (backToKw cpos (keywordEach [] X.env)).all (fun x => x.1.isSome)
   && decide ((e :: es).length + ([] : List Keyword).length + (if ([] : List Keyword).isEmpty then 0 else 1) < 30)) = true := by rfl)
  (hline : (apos.endLine == cpos.line) = true := by rfl) (hs : starEach (e :: es) X.env = (false, eval e X.env) :: starEach es X.env := by rfl) (hplain : (backTo cpos (starEach es X.env)).any (·.1) = false := by rfl) :
  PE X (.Call (.Attribute o name apos) (e :: es) [] cpos) (tBM X.K T r to t) := by
 intro pins s σ H Q I h
 refine wpAny_Call_method_late hbase hfew hline rfl (thn (ho pins s σ H _ I h) fun v s1 ⟨x, H1, I1, r1, ty, q1⟩ => ?_)
 obtain ⟨h1, h2⟩ := aJ1 I1 r1 ty
 refine ⟨T, id, pa, slot, hty, h1, h2, ?_⟩
 have hA := ha cpos pins s1 σ H1 _ I1 q1
 rw [hs] at hA ⊢
 refine Calls.callWith_builtin (by show (false || (backTo cpos (starEach es X.env)).any (·.1)) = false; rw [hplain] <;> rfl) (Calls.evalArgs_plain ?_)
 exact thn hA fun us s2 ⟨vs, H2, I2, r2, q2⟩ => hm pins s2 σ H2 x vs v us Q I2 r1 r2 q2
end
end L2
namespace L2
open PySem PySem.Spec PyProof.Rows
def MtM (X : Cx) (id : String) (r : V -> List V -> Hp -> VK -> Prop) : Prop :=
 ∀ (pins : List (Addr × Obj)) (s : Shared) (σ : St) (H : Hp) (x : V) (xs : List V) (v : Value) (us : List Value) (Q : VK), Inv X pins σ H s -> RelV x v -> Vals xs us -> r x xs H Q ->
  wpAny (model X.prog X.w) X.A (call (.builtin id) (v :: us)) (EP X pins σ Q) X.xe s
theorem Vals.one : ∀ {x : V} {us : List Value}, Vals [x] us -> ∃ u, us = [u] /\ RelV x u
 | _, _, .cons r .nil => ⟨_, rfl, r⟩
theorem Vals.two : ∀ {x y : V} {us : List Value}, Vals [x, y] us -> ∃ u v, us = [u, v] /\ RelV x u /\ RelV y v
 | _, _, _, .cons r (.cons q .nil) => ⟨_, _, rfl, r, q⟩
theorem Vals.zero : ∀ {us : List Value}, Vals [] us -> us = []
 | _, .nil => rfl
section
variable {X : Cx} {pins : List (Addr × Obj)} {σ : St} {H : Hp} {s : Shared} {l b : Addr} {xs ys zs : List V}
theorem Inv.lset {its its' : List Value} {n : Nat} {f : Array Value -> Array Value} {t' : Nat} (I : Inv X pins σ H s) (hH : H l = some (.lst xs))
  (e : s.heap.get? l = some { cls := .type "list", data := .seq its.toArray n }) (hf : f its.toArray = its'.toArray) (hv : Vals ys its') (hz : ys.length <= sizeLine) :
  Inv X pins σ (upd H l (.lst ys)) { s with heap := s.heap.update l (Obj.mapSeq f), toks := t' } := by
 have q := PySem.IsL.update e f
 rw [hf] at q
 refine I.write (x := l) (e := l) (by rw [hH]; exact trivial) (.inl rfl) (fun b' u hb hu => (Heap.get?_update_other s.heap (Obj.mapSeq f) (Ne.symm hb)).trans hu) ⟨_, q⟩ ?_
 exact ⟨hz, its', _, hv, q⟩
theorem Inv.lnew {its : List Value} {t' : Nat} (I : Inv X pins σ H s) (hv : Vals ys its) (hz : ys.length <= sizeLine) :
  Inv X pins σ (upd H s.heap.objs.size (.lst ys)) { s with heap := s.heap.push { cls := .type "list", data := .seq its.toArray }, toks := t' } :=
 I.laid (fun _ _ q => Heap.get?_push_of_some _ q) (Nat.le_refl _) ⟨hz, its, 0, hv, Heap.get?_push_size _ rfl⟩
theorem Inv.fresh (I : Inv X pins σ H s) : H s.heap.objs.size = none := I.hok.fresh (Nat.le_refl _)
theorem Inv.lstM (I : Inv X pins σ H s) (hH : H l = some (.lst xs)) : xs.length <= sizeLine /\ ∃ (its : List Value) (n : Nat), Vals xs its /\ xs.length = its.length /\ s.heap.get? l = some { cls := .type "list", data := .seq its.toArray n } := by
 obtain ⟨z, its, n, r, e⟩ := I.hok l _ hH
 exact ⟨z, its, n, r, r.length, e⟩
theorem aJ3 {n : Nat} (h : n <= sizeLine) : Builtin.List.listTooLong n = false := by
 unfold Builtin.List.listTooLong
 exact decide_eq_false (by omega)
end
section
variable {X : Cx}
def aM4 : V -> List V -> Hp -> VK -> Prop := fun x vs H Q => ∃ l xs y, x = .ref l /\ vs = [y] /\ H l = some (.lst xs) /\ xs.length < sizeLine /\ Q .non (upd H l (.lst (xs ++ [y])))
theorem aHb : MtM X "list.append" aM4 := by
 intro pins s σ H x vs v us Q I rx rv h
 obtain ⟨l, xs, y, rfl, rfl, hH, hz, q⟩ := h
 cases rx
 obtain ⟨u, rfl, ru⟩ := rv.one
 obtain ⟨z, its, n, r, hl, e⟩ := I.lstM hH
 refine call_meets F.slot_list_append ⟨_, e, rfl⟩ F.entry_list_append (F.args_list_append_2 _ _) (PySem.list_append l its.toArray n u (by rw [List.size_toArray]; omega)) ⟨e, ?_⟩
 refine ⟨.non, _, I.lset (its' := its ++ [u]) hH e (by simp) (r.append (.cons ru .nil)) ?_, rfl, q⟩
 rw [List.length_append, List.length_singleton]
 omega
def aM5 : V -> List V -> Hp -> VK -> Prop := fun x vs H Q => ∃ l b xs zs, x = .ref l /\ vs = [.ref b] /\ H l = some (.lst xs) /\ H b = some (.lst zs) /\ xs.length + zs.length <= sizeLine /\ Q .non (upd H l (.lst (xs ++ zs)))
theorem aHc : MtM X "list.extend" aM5 := by
 intro pins s σ H x vs v us Q I rx rv h
 obtain ⟨l, b, xs, zs, rfl, rfl, hH, hB, hz, q⟩ := h
 cases rx
 obtain ⟨u, rfl, ru⟩ := rv.one
 cases ru
 obtain ⟨z, its, n, r, hl, e⟩ := I.lstM hH
 obtain ⟨z2, its2, n2, r2, hl2, e2⟩ := I.lstM hB
 have hsz : its.toArray.size + its2.toArray.size <= sizeLine := by rw [List.size_toArray, List.size_toArray]; omega
 have hlong : ¬ (!its.toArray.isEmpty && Builtin.List.listTooLong (its.toArray.size + its2.toArray.size)) = true := by
  rw [aJ3 hsz, Bool.and_false]
  exact Bool.false_ne_true
 refine call_meets F.slot_list_extend ⟨_, e, rfl⟩ F.entry_list_extend (F.args_list_extend_2 _ _)
  (AutoSeq1.list_extend_list_list_0 l its.toArray n b its2.toArray n2 hlong (by rw [List.size_toArray]; omega) (by omega)) ⟨e, e2, ?_⟩
 refine ⟨.non, _, I.lset (its' := its ++ its2) hH e (by simp) (r.append r2) ?_, rfl, q⟩
 rw [List.length_append]
 omega
def rClear : V -> List V -> Hp -> VK -> Prop := fun x vs H Q => ∃ l xs, x = .ref l /\ vs = [] /\ H l = some (.lst xs) /\ Q .non (upd H l (.lst []))
theorem mt_clear : MtM X "list.clear" rClear := by
 intro pins s σ H x vs v us Q I rx rv h
 obtain ⟨l, xs, rfl, rfl, hH, q⟩ := h
 cases rx
 have hus := rv.zero
 subst hus
 obtain ⟨z, its, n, r, hl, e⟩ := I.lstM hH
 refine call_meets F.slot_list_clear ⟨_, e, rfl⟩ F.entry_list_clear (F.args_list_clear_1 _) (AutoSeq1.list_clear_list_0 l its.toArray n (by rw [List.size_toArray]; omega)) ⟨e, ?_⟩
 exact ⟨.non, _, I.lset (its' := []) (ys := []) hH e rfl .nil (Nat.zero_le _), rfl, q⟩
end
section
variable {prog : Program} {w : World} {A : Around} {E : Value -> Shared -> Prop} {s : Shared}
end
section
variable {X : Cx}
end
end L2
namespace Att
open PySem PySem.W PySem.Calls PyProof.Rows
theorem wA {P : Params} {h : Heap} : ∀ (ns : List Int) (vs : List Value), WellAll P h vs (ns.map WData.int) -> IntsAre vs ns := by
 intro ns
 induction ns with
 | nil =>
  intro vs w
  rw [List.map_nil] at w
  cases w
  exact .nil
 | cons n ns ih =>
  intro vs w
  rw [List.map_cons] at w
  cases w with
  | cons a b =>
   cases a
   exact .cons _ _ (ih _ b)
theorem aHd {l : OpenLaw} {n : Nat} (hn : l.most = some n) {P : Params} {h : Heap} {args : List WData} {vals : List Value}
  (hpre : l.row.toRowW.claim.pre args = true) (hwl : WellAll P h vals args) :
  ∃ a vs ns, vals = [Value.ref a] /\ args = [WData.list (ns.map WData.int)] /\ h.get? a = some { cls := .type "list", data := .seq vs.toArray } /\ IntsAre vs ns /\ ns.length <= n := by
 have hsh : WShape.hasAll [] args [.list .int] = true := (pre_splitW hpre).1
 have hc : l.pre.holds [] { args := args } = true := (pre_splitW hpre).2
 obtain ⟨d, r, rfl, h1, h2⟩ := hasAllW_cons hsh
 obtain rfl := hasAllW_nil h2
 obtain ⟨xs, rfl, h3⟩ := hasW_list h1
 obtain ⟨ns, rfl⟩ := items_int h3
 have hlen : ns.length <= n := by
  unfold OpenLaw.pre at hc
  have h4 : (WTm.not (.lt (.lit (.int (n : Int))) (.len (.arg 0)))).holds [] { args := [.list (ns.map .int)] } = true := by
   have h4 := (holds_andW hc).1
   rw [hn] at h4
   exact h4
  have h5 := condW_of h4 (w_not (w_lt w_lit (w_len_list (w_arg rfl))))
  rw [List.length_map] at h5
  refine Nat.le_of_not_lt fun q => ?_
  have q' : (n : Int) < ((ns.length : Nat) : Int) := by omega
  first
   | (rw [decide_eq_true q'] at h5; exact absurd h5 (by decide))
   | (simp at h5; omega)
 cases hwl with
 | cons w1 w2 =>
  cases w2
  cases w1 with
  | list ho hall => exact ⟨_, _, ns, rfl, rfl, ho, wA ns _ hall, hlen⟩
theorem aHe (l : OpenLaw) (args : List WData) : l.row.toRowW.claim.post args (.bool true) args = true :=
 postW_of (r := l.row.toRowW) (X := (true == true))
  (show WShape.has [] (.bool true) .bool = true by first | rfl | decide | simp [WShape.has, WShape.arms, WShape.armsAll])
  (show (WTm.eq .res (.lit (.bool true))).value [] { args := args, res := some (.bool true), after := args } = some (.bool (true == true)) from w_eq_bool (w_res rfl) w_lit) rfl
theorem attach_call {l : OpenLaw} {n : Nat} {q : Program} {loose : List Str} {XP : (Str -> Option Value) -> Heap -> Prop} {YP : World -> Heap -> Prop} {d : DefRec}
  (hn : l.most = some n) (hdf : d.params.defaults = [])
  (call : ∀ (w : World) (s₀ s₁ : Shared) (mg mb : Str -> Option Value) (fa : Addr) (o : Obj) (pm cd doc : Value) (a : Addr) (vs : List Value) (ns : List Int),
   Ground q loose [] XP w s₀ mg mb s₁.heap -> YP w s₁.heap ->
   s₁.heap.get? fa = some o -> o.data = .func (docDef d.name d.params d.body d.scope pm cd doc) -> s₁.heap.CodeRec cd d.name -> mg d.name = some (.ref fa) ->
   s₁.heap.get? a = some { cls := .type "list", data := .seq vs.toArray } -> IntsAre vs ns -> ns.length <= n -> s₁.gens = #[] ->
   codeAny (model l.prog w) callerA (.call (.ref fa) ⟨[.ref a], []⟩) (fun r s' => r = .ok (.ret (.bool true)) /\ OldK s₁.heap s'.heap /\ s'.os = s₁.os /\ AllBare s'.gens) s₁) :
  WalkO q loose XP YP l.row.toRowW d [] (fun f vs => PySem.call f vs) := by
 intro w s₀ s₁ mg mb G Y fa o pm cd doc dV kV ho hd hcd hD hmg hg args vals as hpre hlay hrd hwl hlo
 obtain rfl : dV = .none := Dflts.none hD hdf
 obtain rfl : kV = .none := Dflts.noKw hD
 obtain ⟨a, vs, ns, rfl, rfl, hobj, hints, hlen⟩ := aHd hn hpre hwl
 refine enter_call (codeAny_mono (call w s₀ s₁ mg mb fa o pm cd doc a vs ns G Y ho (fd_plain hd) hcd hmg hobj hints hlen hg) fun r s' hq => ?_)
 obtain ⟨rfl, h2, h3, h4⟩ := hq
 exact ⟨.inl ⟨.bool true, .bool true, [], rfl, fun _ => rfl, .bool true, aHe l _, fun _ => ⟨List.Pairwise.nil, fun _ hm => (nomatch hm)⟩⟩, h2, h3, h4⟩
section
variable {prog : Program} {w : World} {A : Around} {E : Value -> Shared -> Prop} {s : Shared} {K : Frag}
end
end Att
namespace L2
open PySem PySem.Spec PyProof.Rows
theorem vals_ints : ∀ {vs : List Value} {ns : List Int}, IntsAre vs ns -> Vals (ns.map V.int) vs
 | _, _, .nil => .nil
 | _, _, .cons n t h => .cons ⟨t, rfl⟩ (vals_ints h)
def Only (H : Hp) : Prop := ∀ b, H b = none \/ ∃ o xs, H b = some (.frz o (.lst xs))
theorem aJ4 {P : Program} {w : World} {K : PySem.W.Frag} {mg mb : Str -> Option Value} {CX : CXT} {k : Nat} {fa a : Addr} {fd : FuncData} {x : Str} {sp : Sp} {s₁ : Shared} {vs : List Value} {ns : List Int}
  (KX : K.In s₁.heap) (hns : s₁.heap.Ns mainGlobals mg) (hb : s₁.heap.Ns builtinsNs mb) (hbb : ∀ x : Str, x ≠ "__name__" -> mb x = bootBuiltins x) (hlim : s₁.heap.NoLimit) (hg : s₁.gens = #[])
  (ha : s₁.heap.get? a = some { cls := .type "list", data := .seq vs.toArray }) (hi : IntsAre vs ns) (hl : ns.length <= sizeLine) (hr : Room k callerA)
  (F : ∀ base : Heap, K.In base -> base.Ns mainGlobals mg -> FnOk P w K mg base CX k fa fd [x] sp) (hbind : ∀ (s : Shared) (u : Value), BindsTo s fd ⟨[u], []⟩ [(x, u)])
  (hsp : ∀ H : Hp, Only H -> SqL K H a (ns.map V.int) -> sp [.ref a] H (fun v _ => v = .bl true) fun _ _ _ => False)
  (hCX : ∀ H e s', CX [] H s₁ (fun _ _ _ => False) e s' -> False) :
  codeAny (model P w) callerA (.call (.ref fa) ⟨[.ref a], []⟩) (fun r s' => r = .ok (.ret (.bool true)) /\ OldK s₁.heap s'.heap /\ s'.os = s₁.os /\ AllBare s'.gens) s₁ := by
 have rv := vals_ints hi
 have lenV := hi.length
 have core : ∀ H : Hp, Only H -> SqL K H a (ns.map V.int) -> HOk P w H s₁.heap -> (∀ b, H b ≠ none -> b = a) -> (H a ≠ none -> K.lookup a = none) ->
   codeAny (model P w) callerA (.call (.ref fa) ⟨[.ref a], []⟩) (fun r s' => r = .ok (.ret (.bool true)) /\ OldK s₁.heap s'.heap /\ s'.os = s₁.os /\ AllBare s'.gens) s₁ := by
  intro H hO hS hok hA hK
  have base_of : ∀ {b : Addr} {o : Obj}, s₁.heap.get? b = some o -> H b = none -> (aB2 s₁.heap H).get? b = some o := fun e n => aIm e n
  have noA : ∀ {b : Addr} {o : Obj} {es : Array DictEntry} {ep : Nat}, s₁.heap.get? b = some o -> o.data = .dict es ep -> H b = none := fun {b o es ep} e d => by
   cases q : H b with
   | none => rfl
   | some u =>
    have e' : b = a := hA b (by rw [q]; simp)
    subst e'
    rw [ha] at e; cases e
    have d' : Data.seq vs.toArray _ = Data.dict es ep := d
    cases d'
  have nsK : ∀ {b : Addr} {m : Str -> Option Value}, s₁.heap.Ns b m -> (aB2 s₁.heap H).Ns b m := fun {b m} ⟨o, es, ep, e, d, r⟩ => ⟨o, es, ep, base_of e (noA e d), d, r⟩
  have hKb : K.In (aB2 s₁.heap H) := fun b o e => base_of (KX b o e) (by
   cases q : H b with
   | none => rfl
   | some u =>
    have e' : b = a := hA b (by rw [q]; simp)
    subst e'
    rw [hK (by rw [q]; simp)] at e; cases e)
  have hM : Mod K mg (aB2 s₁.heap H) := ⟨hKb, nsK hns, ⟨mb, nsK hb, hbb⟩, let ⟨mc, h1, h2⟩ := hlim; ⟨mc, nsK h1, h2⟩⟩
  have e0 : Env0 P w K mg (aB2 s₁.heap H) callerA [] s₁ H := ⟨rfl, hM, fun b o e => aLl e, Nat.le_of_eq (aGz _ _), trivial, fun b hb => absurd (show b ∈ ([] : List Addr) from hb) (by simp), hok, .of_eq hg⟩
  refine codeAny_mono ((F _ hKb (nsK hns)).run callerA [] s₁ H ⟨[.ref a], []⟩ [.ref a] [.ref a] _ _ hr e0 (hbind s₁ (.ref a)) (.cons rfl .nil) (hsp H hO hS)) fun r s' h => ?_
  cases r with
  | error e => exact (hCX H e s' h).elim
  | ok fl =>
   cases fl with
   | next => exact False.elim h
   | brk => exact False.elim h
   | cont => exact False.elim h
   | ret u =>
    obtain ⟨v, H', os, bare, un, hok', r', q⟩ := h
    have q' : v = .bl true := q
    subst q'
    obtain rfl : u = Value.bool true := r'
    refine ⟨rfl, OldK.of_keep fun b o e => ?_, os, bare⟩
    cases q : H b with
    | none => exact un.keep b o e q (by intro z; exact absurd (show b ∈ ([] : List Addr) from z) (by simp)) (by simp)
    | some u =>
     rcases hO b with z | ⟨ob, xs, z⟩
     ·rw [q] at z; cases z
     ·have z2 := un.frzs b ob _ z
      obtain ⟨e1, _⟩ := hok b _ z
      obtain ⟨e2, _⟩ := hok' b _ z2
      rw [e] at e1; cases e1
      exact e2
 cases hk : K.lookup a with
 | some o =>
  have e := KX a o hk
  rw [ha] at e
  cases e
  refine core (fun _ => none) (fun _ => .inl rfl) (.inr ⟨_, vs.toArray, _, hk, rfl, rfl, rfl, by rw [List.size_toArray, lenV]; exact hl, by simpa using rv⟩) (fun b u z => by have z' : (none : Option HO) = some u := z; cases z') (fun b z => absurd rfl z) fun z => absurd rfl z
 | none =>
  refine core (fun b => if b = a then some (.frz { cls := .type "list", data := .seq vs.toArray } (.lst (ns.map V.int))) else none) (fun b => ?_) (.inl (.inr ⟨{ cls := .type "list", data := .seq vs.toArray }, if_pos rfl⟩)) (fun b u z => ?_) (fun b z => ?_) fun _ => hk
  ·by_cases hb : b = a
   ·exact .inr ⟨_, _, if_pos hb⟩
   ·exact .inl (if_neg hb)
  ·by_cases hb : b = a
   ·have z' := (if_pos hb).symm.trans z
    cases z'
    subst hb
    exact ⟨ha, by rw [List.length_map]; exact hl, vs, _, rv, ha⟩
   ·have z' := (if_neg hb).symm.trans z
    cases z'
  ·by_cases hb : b = a
   ·exact hb
   ·exact absurd (if_neg hb) z
end L2
namespace L2
open PySem PySem.Spec PyProof.Rows
theorem walk_of {l : PySem.W.OpenLaw} {n k : Nat} {q : Program} {loose : List Str} {XP : (Str -> Option Value) -> Heap -> Prop} {YP : World -> Heap -> Prop} {d : DefRec} {K : Params -> PySem.W.Frag} {CX : World -> CXT} {sp : World -> Sp} {x : Str}
  (hn : l.most = some n) (hn2 : n <= sizeLine) (hdf : d.params.defaults = []) (hr : Room k callerA)
  (hY : ∀ (w : World) (h : Heap), YP w h -> (K w.params).In h)
  (F : ∀ (w : World) (mg : Str -> Option Value) (fa : Addr) (h : Heap), (K w.params).In h -> h.Ns mainGlobals mg -> mg d.name = some (.ref fa) ->
   ∃ fd : FuncData, (∀ (s : Shared) (u : Value), BindsTo s fd ⟨[u], []⟩ [(x, u)]) /\
    ∀ base : Heap, (K w.params).In base -> base.Ns mainGlobals mg -> FnOk l.prog w (K w.params) mg base (CX w) k fa fd [x] (sp w))
  (hsp : ∀ (w : World) (H : Hp) (a : Addr) (ns : List Int), ns.length <= n -> Only H -> SqL (K w.params) H a (ns.map V.int) -> sp w [.ref a] H (fun v _ => v = .bl true) fun _ _ _ => False)
  (hCX : ∀ (w : World) (H : Hp) (s : Shared) (e : Value) (s' : Shared), CX w [] H s (fun _ _ _ => False) e s' -> False) :
  PySem.W.WalkO q loose XP YP l.row.toRowW d [] (fun f vs => PySem.call f vs) := by
 refine Att.attach_call hn hdf fun w s₀ s₁ mg mb fa o pm cd doc a vs ns G Y ho hd hcd hmg hobj hints hlen hg => ?_
 have KX := hY w _ Y
 obtain ⟨fd, hb, hF⟩ := F w mg fa _ KX G.T.g hmg
 exact aJ4 KX G.T.g G.T.b G.T.builtins G.T.nolimit hg hobj hints (Nat.le_trans hlen hn2) hr hF hb (fun H hO hS => hsp w H a ns hlen hO hS) fun H e s' => hCX w H s₁ e s'
end L2
namespace L2
open PySem PySem.Spec PyProof.Rows
def bR (s : Stmt) : Arguments := match s with
 | .FunctionDef _ a _ _ _ _ _ _ _ _ => a
 | _ => { posonlyargs := [], args := [], vararg := none, kwonlyargs := [], kw_defaults := [], kwarg := none, defaults := [] }
def bD (s : Stmt) : List Stmt := match s with
 | .FunctionDef _ _ b _ _ _ _ _ _ _ => b
 | _ => []
def aF (s : Stmt) : Scope := match s with
 | .FunctionDef _ _ _ _ _ _ sc _ _ _ => sc
 | _ => { kind := .function, names := [], isGenerator := false, isCoroutine := false }
abbrev CX0 : CXT := fun _ _ _ _ _ _ => False
abbrev E0 : XK := fun _ _ _ => False
theorem zV {X : Cx} : uJ CX0 X E0 := fun _ _ _ _ _ _ _ h => h.elim
structure Fun (K : PySem.W.Frag) (x qual : Str) (st : Stmt) (f : Addr) (fd : FuncData) : Prop where
 ex : ∃ (oc : Value) (od : Option Addr) (kV doc pm : Value) (an : Option Addr) (cdv ct : Value) (osl : Array (Option Value)),
  fd = PySem.W.fnOf x qual (bR st) (bD st) (aF st) .none kV doc pm an cdv ct /\ K.lookup f = some ⟨oc, od, .func fd, osl⟩ /\ PySem.W.codeIn K cdv qual = true
 kp : PySem.W.keepIn K (.ref f) = true
section
variable {P : Program} {w : World} {K : PySem.W.Frag} {mg : Str -> Option Value} {base : Heap}
theorem Fun.ok {x qual : Str} {st : Stmt} {f : Addr} {fd : FuncData} {N ps : List Str} {k : Nat} {sp : Sp} (F : Fun K x qual st f fd) (S : FnScope N ps (aF st)) (len : ∀ vs H Q E, sp vs H Q E -> vs.length = ps.length)
  (hbody : ∀ (cdv : Value) (A : Around) (outer : List Env) (s : Shared) (H : Hp) (vs : List V) (Q : VK) (E : XK), Room k (A.deeper (envOfC qual (aF st) s.heap.objs.size f cdv)) -> sp vs H Q E ->
   ∃ t, PSs (rZ CX0 P w K mg base N qual (aF st) f cdv A outer s H E).nox (bD st) t /\ t { nx := fun _ H' => Q .non H', rt := Q } (start N vs) H) : FnOk P w K mg base CX0 (k + 1) f fd ps sp := by
 obtain ⟨oc, od, kV, doc, pm, an, cdv, ct, osl, rfl, lk, hcd⟩ := F.ex
 refine aIz lk hcd S len fun A outer s H vs Q E hr hsp => ?_
 obtain ⟨t, h, q⟩ := hbody cdv A outer s H vs Q E hr hsp
 exact ⟨t, h.nox, q⟩
theorem Fun.binds {x qual : Str} {st : Stmt} {f : Addr} {fd : FuncData} {ps : List Str} (F : Fun K x qual st f fd)
  (h : ∀ (kV doc pm : Value) (an : Option Addr) (cdv ct : Value) (us : List Value), us.length = ps.length -> bindArgs (PySem.W.fnOf x qual (bR st) (bD st) (aF st) .none kV doc pm an cdv ct) ⟨us, []⟩ = pure (ps.zip us)) : Binds K fd ps [] := by
 obtain ⟨oc, od, kV, doc, pm, an, cdv, ct, osl, rfl, lk, hcd⟩ := F.ex
 exact .all (h kV doc pm an cdv ct)
theorem aPt {x qual : Str} {st : Stmt} {f : Addr} {oc : Value} {od an : Option Addr} {osl : Array (Option Value)} {kV doc pm cdv ct : Value} (l : K.lookup f = some ⟨oc, od, .func (PySem.W.fnOf x qual (bR st) (bD st) (aF st) .none kV doc pm an cdv ct), osl⟩)
  (c : PySem.W.codeIn K cdv qual = true) (k : PySem.W.keepIn K (.ref f) = true) : Fun K x qual st f (PySem.W.fnOf x qual (bR st) (bD st) (aF st) .none kV doc pm an cdv ct) := ⟨⟨oc, od, kV, doc, pm, an, cdv, ct, osl, rfl, l, c⟩, k⟩
end
section
variable {X : Cx}
end
def aP (H H' : Hp) : Prop := ∀ b o, H b = some o -> H' b = some o
theorem aP.refl (H : Hp) : aP H H := fun _ _ h => h
theorem aP.trans {H H1 H2 : Hp} (a : aP H H1) (b : aP H1 H2) : aP H H2 := fun c o h => b c o (a c o h)
theorem aP.seq {K : PySem.W.Frag} {H H' : Hp} {a : Addr} {xs : List V} (e : aP H H') (h : SqL K H a xs) : SqL K H' a xs := by
 rcases h with (h | ⟨o, h⟩) | h
 ·exact .inl (.inl (e _ _ h))
 ·exact .inl (.inr ⟨o, e _ _ h⟩)
 ·exact .inr h
end L2
namespace L2
open PySem PySem.Spec PyProof.Rows
section
variable {κ : Type} [DecidableEq κ]
def sE (kvs : List (κ × V)) (k : κ) : Option V := (kvs.find? fun kv => decide (kv.1 = k)).map (·.2)
def putK (kvs : List (κ × V)) (k : κ) (v : V) : List (κ × V) :=
 if (kvs.any fun kv => decide (kv.1 = k)) = true then kvs.map (fun kv => if kv.1 = k then (kv.1, v) else kv) else kvs ++ [(k, v)]
theorem oV {p : κ × V} {r : List (κ × V)} {k : κ} (e : p.1 = k) : sE (p :: r) k = some p.2 := by simp [sE, List.find?_cons, e]
theorem oW {p : κ × V} {r : List (κ × V)} {k : κ} (e : ¬ p.1 = k) : sE (p :: r) k = sE r k := by simp [sE, List.find?_cons, e]
theorem aCn (k : κ) : ∀ kvs : List (κ × V), (kvs.any fun kv => decide (kv.1 = k)) = (sE kvs k).isSome
 | [] => rfl
 | p :: r => by
  rw [List.any_cons]
  by_cases e : p.1 = k
  ·simp only [oV e, decide_eq_true e, Bool.true_or, Option.isSome_some]
  ·rw [oW e, decide_eq_false e, Bool.false_or]; exact aCn k r
theorem oX (kvs : List (κ × V)) (k : κ) (v : V) : (putK kvs k v).length <= kvs.length + 1 := by
 unfold putK
 split
 ·rw [List.length_map]; omega
 ·rw [List.length_append, List.length_cons, List.length_nil]; omega
theorem oR.isSome_eq {o : Option V} {u : Option Value} (r : oR o u) : o.isSome = u.isSome := by
 cases o with
 | none => cases u with
  | none => rfl
  | some _ => exact (show False from r).elim
 | some _ => cases u with
  | none => exact (show False from r).elim
  | some _ => rfl
theorem KV.val {kvs : List (κ × V)} {vs : List (κ × Value)} (r : KV kvs vs) (k : κ) : oR (sE kvs k) (valueAt vs k) := by
 unfold KV at r
 induction r with
 | nil => exact True.intro
 | @cons p q ps qs h t ih =>
  obtain ⟨h1, h2⟩ := h
  by_cases e : p.1 = k
  ·have e' : q.1 = k := h1.symm.trans e
   have b : valueAt (q :: qs) k = some q.2 := by simp [valueAt, List.find?_cons, e']
   rw [oV e, b]; exact h2
  ·have e' : ¬ q.1 = k := fun z => e (h1.trans z)
   have b : valueAt (q :: qs) k = valueAt qs k := by simp [valueAt, List.find?_cons, e']
   rw [oW e, b]; exact ih
theorem KV.any {kvs : List (κ × V)} {vs : List (κ × Value)} (r : KV kvs vs) (k : κ) : (kvs.any fun kv => decide (kv.1 = k)) = vs.any fun kv => decide (kv.1 = k) := by
 unfold KV at r
 induction r with
 | nil => rfl
 | cons h t ih => rw [List.any_cons, List.any_cons, ih, h.1]
theorem KV.repl {kvs : List (κ × V)} {vs : List (κ × Value)} (r : KV kvs vs) (k : κ) {y : V} {u : Value} (ry : RelV y u) :
  KV (kvs.map fun kv => if kv.1 = k then (kv.1, y) else kv) (vs.map fun kv => if kv.1 = k then (kv.1, u) else kv) := by
 unfold KV at r ⊢
 induction r with
 | nil => exact .nil
 | @cons p q ps qs h t ih =>
  rw [List.map_cons, List.map_cons]
  refine .cons ?_ ih
  obtain ⟨h1, h2⟩ := h
  by_cases e : p.1 = k
  ·rw [if_pos e, if_pos (h1.symm.trans e)]; exact ⟨h1, ry⟩
  ·rw [if_neg e, if_neg (fun z => e (h1.trans z))]; exact ⟨h1, h2⟩
theorem KV.put {kvs : List (κ × V)} {vs : List (κ × Value)} (r : KV kvs vs) (k : κ) {y : V} {u : Value} (ry : RelV y u) : KV (putK kvs k y) (stored vs k u) := by
 unfold putK stored
 rw [r.any k]
 by_cases e : (vs.any fun kv => decide (kv.1 = k)) = true
 ·rw [if_pos e, if_pos e]; exact r.repl k ry
 ·rw [if_neg e, if_neg e]; exact Paired.snoc r ⟨rfl, ry⟩
theorem KV.length {kvs : List (κ × V)} {vs : List (κ × Value)} (r : KV kvs vs) : kvs.length = vs.length := Paired.length r
end
theorem zW {P : Program} {w : World} {k : Key} {u : Value} (r : RelV (kV k) u) : (dO P w).is k u = true := by
 cases k with
 | inl i => obtain ⟨t, e⟩ := (show ∃ t, u = Value.int i t from r); subst e; exact aCf P w i t
 | inr x => obtain ⟨t, e⟩ := (show ∃ t, u = Value.str x t from r); subst e; exact aCg P w x t
theorem zX {P : Program} {w : World} : ∀ {ks : List Key} {us : List Value}, Vals (ks.map kV) us -> ItemsAre (dO P w) ks us
 | [], _, r => by rw [List.map_nil] at r; cases r; exact .nil
 | k :: ks, _, r => by
  rw [List.map_cons] at r
  cases r with
  | cons h t => exact .cons (zW h) (zX t)
abbrev KT (H : Hp) : List (List Key × V) -> List (List Key × Addr × Value) -> Prop := Paired fun p q => p.1 = q.1 /\ H q.2.1 = some (.tup (p.1.map kV)) /\ RelV p.2 q.2.2
theorem KT.val {H : Hp} {kvs : List (List Key × V)} {xs : List (List Key × Addr × Value)} (r : KT H kvs xs) (k : List Key) : oR (sE kvs k) ((atKey xs k).map (·.2)) := by
 induction r with
 | nil => exact True.intro
 | @cons p q ps qs h t ih =>
  obtain ⟨h1, _, h2⟩ := h
  by_cases e : p.1 = k
  ·have e' : q.1 = k := h1.symm.trans e
   have b : atKey (q :: qs) k = some q.2 := by simp [atKey, List.find?_cons, e']
   rw [oV e, b]; exact h2
  ·have e' : ¬ q.1 = k := fun z => e (h1.trans z)
   have b : atKey (q :: qs) k = atKey qs k := by simp [atKey, List.find?_cons, e']
   rw [oW e, b]; exact ih
theorem KT.repl {H : Hp} {kvs : List (List Key × V)} {xs : List (List Key × Addr × Value)} (r : KT H kvs xs) (k : List Key) {y : V} {u : Value} (ry : RelV y u) :
  KT H (kvs.map fun kv => if kv.1 = k then (kv.1, y) else kv) (xs.map (putAt k u)) := by
 induction r with
 | nil => exact .nil
 | @cons p q ps qs h t ih =>
  rw [List.map_cons, List.map_cons]
  refine .cons ?_ ih
  obtain ⟨h1, h2, h3⟩ := h
  unfold putAt
  by_cases e : p.1 = k
  ·rw [if_pos e, if_pos (h1.symm.trans e)]; exact ⟨h1, h2, ry⟩
  ·rw [if_neg e, if_neg (fun z => e (h1.trans z))]; exact ⟨h1, h2, h3⟩
theorem KT.put {H : Hp} {kvs : List (List Key × V)} {xs : List (List Key × Addr × Value)} (r : KT H kvs xs) (k : List Key) {b : Addr} {y : V} {u : Value} (hb : H b = some (.tup (k.map kV))) (ry : RelV y u) :
  KT H (putK kvs k y) (storedH xs k b u) := by
 have e : (kvs.any fun kv => decide (kv.1 = k)) = (atKey xs k).isSome := by
  rw [aCn, (r.val k).isSome_eq, Option.isSome_map]
 unfold putK storedH
 rw [e]
 by_cases q : (atKey xs k).isSome = true
 ·rw [if_pos q, if_pos q]; exact r.repl k ry
 ·rw [if_neg q, if_neg q]; exact Paired.snoc r ⟨rfl, hb, ry⟩
theorem KT.keeps {H H' : Hp} {kvs : List (List Key × V)} {xs : List (List Key × Addr × Value)} (r : KT H kvs xs) (ht : ∀ b ys, H b = some (.tup ys) -> H' b = some (.tup ys)) : KT H' kvs xs :=
 Paired.mapP r fun _ _ z => ⟨z.1, ht _ _ z.2.1, z.2.2⟩
section
variable {P : Program} {w : World} {H : Hp} {h : Heap} {a : Addr}
theorem aO1 {u : HO} (ok : HOk P w H h) (e : Rd H a u) : gD P w H h a u := e.ok ok
theorem zY {kvs : List (Key × V)} (ok : HOk P w H h) (e : Rd H a (.dK kvs)) : kvs.length <= sizeLine /\ (a == sysModules) = false /\ ∃ vs, KV kvs vs /\ h.DictOf (dO P w) a vs :=
 show gD P w H h a (.dK kvs) from aO1 ok e
theorem aFl {kvs : List (Key × V)} (ok : HOk P w H h) (e : H a = some (.dK kvs)) : kvs.length <= sizeLine /\ (a == sysModules) = false /\ ∃ vs, KV kvs vs /\ h.DictOf (dO P w) a vs := zY ok (.inl e)
theorem xH {ks : List Key} (ok : HOk P w H h) (e : H a = some (.tup (ks.map kV))) : (tupleKind (dO P w)).is h ks a := by
 obtain ⟨_, its, r, o, h1, h2, n, h3⟩ := (show gD P w H h a (.tup (ks.map kV)) from ok a _ e)
 exact ⟨o, its.toArray, n, h1, h2, h3, by simpa using zX r⟩
theorem aCo {kvs : List (List Key × V)} (ok : HOk P w H h) (e : Rd H a (.dT kvs)) : kvs.length <= sizeLine /\ (a == sysModules) = false /\
  ∃ xs, KT H kvs xs /\ h.DictOfH (tupleKind (dO P w)) a xs := by
 obtain ⟨z, y, xs, r, o, es, ep, h1, h2, h3, h4, h5⟩ := (show gD P w H h a (.dT kvs) from aO1 ok e)
 refine ⟨z, y, xs, r, o, es, ep, h1, h2, h3, h4, fun x hx => ?_, h5⟩
 have all : ∀ {l : List (List Key × V)} {m : List (List Key × Addr × Value)}, KT H l m -> ∀ x ∈ m, (tupleKind (dO P w)).is h x.1 x.2.1 := by
  intro l m q
  induction q with
  | nil => intro x hx; exact nomatch hx
  | @cons p q ps qs hq t ih =>
   intro x hx
   rcases List.mem_cons.mp hx with e | hx
   ·subst e
    exact xH ok (by rw [<- hq.1]; exact hq.2.1)
   ·exact ih x hx
 exact all r x hx
theorem aTa {kvs : List (List Key × V)} (ok : HOk P w H h) (e : H a = some (.dT kvs)) : kvs.length <= sizeLine /\ (a == sysModules) = false /\
  ∃ xs, KT H kvs xs /\ h.DictOfH (tupleKind (dO P w)) a xs := aCo ok (.inl e)
end
def uL (H : Hp) (a : Addr) (y : V) (r : Option V) : Prop :=
 (∃ kvs k, Rd H a (.dK kvs) /\ y = kV k /\ r = sE kvs k) \/ ∃ kvs k b, Rd H a (.dT kvs) /\ y = .ref b /\ H b = some (.tup (k.map kV)) /\ r = sE kvs k
def aBc (H : Hp) (a : Addr) (y v : V) (H' : Hp) : Prop :=
 (∃ kvs k, H a = some (.dK kvs) /\ y = kV k /\ kvs.length < sizeLine /\ H' = upd H a (.dK (putK kvs k v))) \/
 ∃ kvs k b, H a = some (.dT kvs) /\ y = .ref b /\ H b = some (.tup (k.map kV)) /\ kvs.length < sizeLine /\ H' = upd H a (.dT (putK kvs k v))
theorem uL.k {H : Hp} {a : Addr} {kvs : List (Key × V)} {k : Key} (e : H a = some (.dK kvs)) : uL H a (kV k) (sE kvs k) := .inl ⟨kvs, k, .inl e, rfl, rfl⟩
theorem uL.t {H : Hp} {a b : Addr} {kvs : List (List Key × V)} {k : List Key} (e : H a = some (.dT kvs)) (eb : H b = some (.tup (k.map kV))) : uL H a (.ref b) (sE kvs k) := .inr ⟨kvs, k, b, .inl e, rfl, eb, rfl⟩
theorem aBc.k {H : Hp} {a : Addr} {kvs : List (Key × V)} {k : Key} {v : V} (e : H a = some (.dK kvs)) (hl : kvs.length < sizeLine) : aBc H a (kV k) v (upd H a (.dK (putK kvs k v))) := .inl ⟨kvs, k, e, rfl, hl, rfl⟩
theorem aBc.t {H : Hp} {a b : Addr} {kvs : List (List Key × V)} {k : List Key} {v : V} (e : H a = some (.dT kvs)) (eb : H b = some (.tup (k.map kV))) (hl : kvs.length < sizeLine) :
  aBc H a (.ref b) v (upd H a (.dT (putK kvs k v))) := .inr ⟨kvs, k, b, e, rfl, eb, hl, rfl⟩
section
variable {X : Cx} {pins : List (Addr × Obj)} {σ : St} {H : Hp} {s : Shared} {a : Addr} {y v : V} {u r : Value} {o : Option V} {A : Around} {E : Value -> Shared -> Prop}
theorem Inv.big (I : Inv X pins σ H s) : sysModules < s.heap.objs.size := by
 have h : mainGlobals < s.heap.objs.size := (I.mod.glob.keeps I.bk).lt
 exact Nat.lt_trans (by decide) h
theorem aHf {Q : Value -> Shared -> Prop} (hu : A.units + 1 < cLine) (I : Inv X pins σ H s) (g : uL H a y (some v)) (ry : RelV y u) (h : ∀ w' s', Inv X pins σ H s' -> RelV v w' -> Q w' s') :
  wpAny (model X.prog X.w) A (getItem (.ref a) u) Q E s := by
 rcases g with ⟨kvs, k, e, ey, l⟩ | ⟨kvs, k, b, e, ey, eb, l⟩
 ·subst ey
  obtain ⟨z, hd, vs, rel, dd⟩ := zY I.hok e
  obtain ⟨w', hw, rw'⟩ := oR.some_of (v := v) (o := valueAt vs k) (by rw [l]; exact rel.val k)
  exact wpAny_getItem_of (zW ry) dd.mapOf hw (h w' _ (I.tok _) rw')
 ·subst ey
  cases (show u = Value.ref b from ry)
  obtain ⟨z, hd, xs, rel, dd⟩ := aCo I.hok e
  obtain ⟨w', hw, rw'⟩ := oR.some_of (v := v) (o := (atKey xs k).map (·.2)) (by rw [l]; exact rel.val k)
  obtain ⟨p, hp, hp2⟩ := Option.map_eq_some_iff.mp hw
  refine wpAny_getItem_heap (tupleKind_room_in1 hu) (xH I.hok eb) dd hp ?_
  rw [hp2]
  exact h w' _ (I.tok _) rw'
theorem aWx {Q : Value -> Shared -> Prop} (hu : A.units + 1 < cLine) (I : Inv X pins σ H s) (g : uL H a y o) (ry : RelV y u) (h : ∀ s', Inv X pins σ H s' -> Q (.bool o.isSome) s') :
  wpAny (model X.prog X.w) A (compareOp .In u (.ref a)) Q E s := by
 rcases g with ⟨kvs, k, e, ey, l⟩ | ⟨kvs, k, b, e, ey, eb, l⟩
 ·subst ey
  obtain ⟨z, hd, vs, rel, dd⟩ := zY I.hok e
  refine wpAny_in_of (zW ry) hd dd.mapOf ?_
  rw [<- (rel.val k).isSome_eq, <- l]
  exact h _ (I.tok _)
 ·subst ey
  cases (show u = Value.ref b from ry)
  obtain ⟨z, hd, xs, rel, dd⟩ := aCo I.hok e
  refine wpAny_in_heap (tupleKind_room_in1 hu) (xH I.hok eb) hd dd ?_
  have q := (rel.val k).isSome_eq
  rw [Option.isSome_map] at q
  rw [<- q, <- l]
  exact h _ (I.tok _)
theorem aM6 {Q : Value -> Shared -> Prop} (hu : A.units + 1 < cLine) (I : Inv X pins σ H s) (g : uL H a y o) (ry : RelV y u) (h : ∀ s', Inv X pins σ H s' -> Q (.bool (!o.isSome)) s') :
  wpAny (model X.prog X.w) A (compareOp .NotIn u (.ref a)) Q E s := by
 rcases g with ⟨kvs, k, e, ey, l⟩ | ⟨kvs, k, b, e, ey, eb, l⟩
 ·subst ey
  obtain ⟨z, hd, vs, rel, dd⟩ := zY I.hok e
  refine wpAny_notIn_of (zW ry) hd dd.mapOf ?_
  rw [<- (rel.val k).isSome_eq, <- l]
  exact h _ (I.tok _)
 ·subst ey
  cases (show u = Value.ref b from ry)
  obtain ⟨z, hd, xs, rel, dd⟩ := aCo I.hok e
  refine wpAny_notIn_heap (tupleKind_room_in1 hu) (xH I.hok eb) hd dd ?_
  have q := (rel.val k).isSome_eq
  rw [Option.isSome_map] at q
  rw [<- q, <- l]
  exact h _ (I.tok _)
theorem aBd {h' : Heap} {t' : Nat} {ob : HO} (I : Inv X pins σ H s) (mu : Mut (H a)) (hs : Heap.SameBut a s.heap h') (he : ∃ q, h'.get? a = some q) (new : gD X.prog X.w (upd H a ob) h' a ob) :
  Inv X pins σ (upd H a ob) { s with heap := h', toks := t' } :=
 I.write (x := a) (e := a) mu (.inl rfl) (fun b q hb z => (hs.2 b hb).trans z) he new
theorem aJ5 {P : Program} {w : World} {H' : Hp} {h' : Heap} {kvs : List (Key × V)} {vs : List (Key × Value)} (z : kvs.length <= sizeLine) (hd : (a == sysModules) = false) (rel : KV kvs vs) (dd : h'.DictOf (dO P w) a vs) :
  gD P w H' h' a (.dK kvs) := ⟨z, hd, vs, rel, dd⟩
theorem aHg {H' : Hp} {Q : Unit -> Shared -> Prop} (hu : A.units + 1 < cLine) (I : Inv X pins σ H s) (g : aBc H a y v H') (ry : RelV y u) (rv : RelV v r) (h : ∀ s', Inv X pins σ H' s' -> Q () s') :
  wpAny (model X.prog X.w) A (setItem (.ref a) u r) Q E s := by
 rcases g with ⟨kvs, k, e, ey, l, eH⟩ | ⟨kvs, k, b, e, ey, eb, l, eH⟩
 ·subst ey eH
  obtain ⟨z, hd, vs, rel, dd⟩ := aFl I.hok e
  have hz : vs.length <= sizeLine := by rw [<- rel.length]; exact z
  have hl : (putK kvs k v).length <= sizeLine := by have := oX kvs k v; omega
  refine wpAny_setItem_pairs (hsz := hz) (zW ry) dd fun h' dd' hs => h _ ?_
  have he : ∃ q, h'.get? a = some q := let ⟨q, _, _, hq, _⟩ := dd'; ⟨q, hq⟩
  exact aBd I (by rw [e]; exact True.intro) hs he (aJ5 hl hd (rel.put k rv) dd')
 ·subst ey eH
  cases (show u = Value.ref b from ry)
  obtain ⟨z, hd, xs, rel, dd⟩ := aTa I.hok e
  have hz : xs.length <= sizeLine := by rw [<- Paired.length rel]; exact z
  have hl : (putK kvs k v).length <= sizeLine := by have := oX kvs k v; omega
  refine wpAny_setItem_heap (hsz := hz) (tupleKind_room_in1 hu) (xH I.hok eb) dd fun h' dd' hs => h _ ?_
  obtain ⟨q, es, ep, hq, h2, h3, h4, _, h5⟩ := dd'
  refine aBd I (by rw [e]; exact True.intro) hs ⟨q, hq⟩ ⟨hl, hd, _, (rel.put k eb rv).keeps fun c ys ec => ?_, q, es, ep, hq, h2, h3, h4, h5⟩
  rw [bG (aSk ec e (fun z => nomatch z))]
  exact ec
end
section
variable {X : Cx} {pins : List (Addr × Obj)} {σ : St} {H : Hp} {s : Shared} {a : Addr} {kvs : List (Key × V)} {k : Key} {u : Value} {A : Around} {E : Value -> Shared -> Prop}
theorem aTb {Q : Value -> Shared -> Prop} (I : Inv X pins σ H s) (e : Rd H a (.dK kvs)) (h : ∀ t s', Inv X pins σ H s' -> Q (.int kvs.length t) s') : wpAny (model X.prog X.w) A (call (.builtin "len") [.ref a]) Q E s := by
 obtain ⟨z, hd, vs, rel, dd⟩ := zY I.hok e
 refine call_len_dict hd dd (by rw [<- rel.length]; rw [sizeLine_eq] at z; omega) ?_
 rw [<- rel.length]
 exact h _ _ (I.tok _)
end
theorem aCp {X : Cx} {pins : List (Addr × Obj)} {σ : St} {H : Hp} {s : Shared} {a : Addr} {y : V} {o : Option V} (I : Inv X pins σ H s) (g : uL H a y o) : s.TypeIs (.ref a) "dict" := by
 rcases g with ⟨kvs, k, e, _, _⟩ | ⟨kvs, k, b, e, _, _, _⟩
 ·obtain ⟨_, _, vs, _, dd⟩ := zY I.hok e
  exact dd.typeIs
 ·obtain ⟨_, _, xs, _, dd⟩ := aCo I.hok e
  exact dd.typeIs
def sDPut (td ty tv : TE) : TS := fun D σ H => tv σ H fun v H1 => td σ H1 fun x H2 => ty σ H2 fun y H3 => ∃ a H4, x = .ref a /\ aBc H3 a y v H4 /\ D.nx σ H4
section
variable {X : Cx} {o i e value : Expr} {pos pos' tpos : Pos} {td ty tv : TE}
end
theorem aCq {P : Program} {w : World} {H : Hp} (h : Heap) (hb : sysModules < h.objs.size) : gD P w H (h.push { cls := .type "dict", data := .dict #[] }) h.objs.size (.dK []) :=
 ⟨Nat.zero_le _, beq_eq_false_iff_ne.mpr (Ne.symm (Nat.ne_of_lt hb)), [], .nil, Heap.DictOf.new h⟩
def aPu : TE := fun _ H Q => ∀ p, H p = none -> Q (.ref p) (upd H p (.dK []))
section
variable {X : Cx} {pos : Pos}
theorem aJ6 : PE X (.Dict [] [] pos) aPu := fun pins s σ H Q I h =>
 wpAny_Dict_empty ⟨.ref s.heap.objs.size, _, I.laid (a := s.heap.objs.size) (o := .dK []) (t' := s.toks) (fun _ _ q => Heap.get?_push_of_some _ q) (Nat.le_refl _) (aCq s.heap I.big), rfl, h _ (I.hok.fresh (Nat.le_refl _))⟩
end
def aEd : List (TE × TE) -> St -> Hp -> (List (V × V) -> Hp -> Prop) -> Prop
 | [], _, H, Q => Q [] H
 | (tk, tv) :: r, σ, H, Q => tk σ H fun x H1 => tv σ H1 fun y H2 => aEd r σ H2 fun ps H3 => Q ((x, y) :: ps) H3
abbrev VV : List (V × V) -> List (Value × Value) -> Prop := Paired fun p q => RelV p.1 q.1 /\ RelV p.2 q.2
def PPs (X : Cx) (pos : Pos) (keys : List (Option Expr)) (values : List Expr) (trs : List (TE × TE)) : Prop :=
 ∀ (pins : List (Addr × Obj)) (s : Shared) (σ : St) (H : Hp) (Q : List (V × V) -> Hp -> Prop), Inv X pins σ H s -> aEd trs σ H Q ->
  wpAny (model X.prog X.w) X.A (evalPairs (pairTrees keys values X.env pos)) (fun vs s' => ∃ ps H', Inv X pins σ H' s' /\ VV ps vs /\ Q ps H') X.xe s
theorem aM7 {X : Cx} {pos : Pos} : PPs X pos [] [] [] := fun pins s σ H Q I h => pairTrees_nil_walk ⟨[], H, I, .nil, h⟩
theorem aJ7 {X : Cx} {pos : Pos} {k v : Expr} {ks : List (Option Expr)} {vs : List Expr} {tk tv : TE} {trs : List (TE × TE)} (hk : PE X k tk) (hv : PE X v tv) (hr : PPs X pos ks vs trs) :
  PPs X pos (some k :: ks) (v :: vs) ((tk, tv) :: trs) := fun pins s σ H Q I h =>
 pairTrees_cons_walk (thn (hk pins s σ H _ I h) fun u s1 ⟨x, H1, I1, rx, q1⟩ => thn (hv pins s1 σ H1 _ I1 q1) fun w2 s2 ⟨y, H2, I2, ry, q2⟩ =>
  thn (hr pins s2 σ H2 _ I2 q2) fun ws s3 ⟨ps, H3, I3, rel, q3⟩ => ⟨(x, y) :: ps, H3, I3, .cons ⟨rx, ry⟩ rel, q3⟩)
def uM (kvs more : List (Key × V)) : List (Key × V) := more.foldl (fun acc kv => putK acc kv.1 kv.2) kvs
theorem KV.merge : ∀ {more : List (Key × V)} {rs : List (Key × Value)} {kvs : List (Key × V)} {vs : List (Key × Value)}, KV more rs -> KV kvs vs -> KV (uM kvs more) (merged vs rs) := by
 intro more rs kvs vs r
 unfold KV at r
 induction r generalizing kvs vs with
 | nil => intro q; exact q
 | @cons p q ps qs h t ih =>
  intro r0
  have e : KV (putK kvs p.1 p.2) (stored vs q.1 q.2) := by
   have := r0.put p.1 h.2
   rw [<- h.1]; exact this
  exact ih e
theorem qK : ∀ (more kvs : List (Key × V)), (uM kvs more).length <= kvs.length + more.length
 | [], kvs => by show kvs.length <= kvs.length + 0; omega
 | p :: r, kvs => by
  have h1 := qK r (putK kvs p.1 p.2)
  have h2 := oX kvs p.1 p.2
  show (uM (putK kvs p.1 p.2) r).length <= _
  rw [List.length_cons]; omega
theorem xJ {P : Program} {w : World} : ∀ {kvs : List (Key × V)} {ws : List (Value × Value)}, VV (kvs.map fun kv => (kV kv.1, kv.2)) ws -> ∃ rs, Carries (dO P w) ws rs /\ KV kvs rs
 | [], _, r => by rw [List.map_nil] at r; cases r; exact ⟨[], True.intro, .nil⟩
 | p :: kvs, _, r => by
  rw [List.map_cons] at r
  cases r with
  | @cons a b as bs h t =>
   obtain ⟨rs, c, q⟩ := xJ (P := P) (w := w) t
   obtain ⟨b1, b2⟩ := b
   exact ⟨(p.1, b2) :: rs, ⟨zW h.1, rfl, c⟩, .cons ⟨rfl, h.2⟩ q⟩
def aTc (trs : List (TE × TE)) : TE := fun σ H Q => ∀ p, H p = none -> aEd trs σ (upd H p (.dK [])) fun ps H2 => H2 p = some (.dK []) /\ ∃ kvs : List (Key × V), ps = kvs.map (fun kv => (kV kv.1, kv.2)) /\ kvs.length <= 15 /\ Q (.ref p) (upd H2 p (.dK (uM [] kvs)))
theorem aM8 {X : Cx} {pos : Pos} {keys : List (Option Expr)} {values : List Expr} {trs : List (TE × TE)} (h : PPs X pos keys values trs) (hall : keys.all (·.isSome) = true) (hl : keys.length = values.length) (h0 : keys ≠ [])
  (h15 : keys.length <= 15) : PE X (.Dict keys values pos) (aTc trs) := by
 intro pins s σ H Q I q
 have hn := I.hok.fresh (Nat.le_refl s.heap.objs.size)
 have I1 := I.laid (a := s.heap.objs.size) (o := .dK []) (h' := s.heap.push { cls := .type "dict", data := .dict #[] }) (t' := s.toks) (fun _ _ q => Heap.get?_push_of_some _ q) (Nat.le_refl _) (aCq s.heap I.big)
 refine wpAny_Dict_walk (knd := dO X.prog X.w) hall hl h0 h15 (thn (h pins _ σ _ _ I1 (q _ hn)) fun ws s2 ⟨ps, H2, I2, rel, e, kvs, ep, lk, q2⟩ => ?_)
 subst ep
 obtain ⟨rs, c, rk⟩ := xJ (P := X.prog) (w := X.w) rel
 obtain ⟨z, hd, vs0, r0, dd⟩ := aFl I2.hok e
 cases r0
 refine ⟨rs, c, dd, fun h' dd' hs => ⟨.ref s.heap.objs.size, _, ?_, rfl, q2⟩⟩
 have hz : (uM [] kvs).length <= sizeLine := by
  have h1 := qK kvs []
  rw [List.length_nil] at h1
  rw [sizeLine_eq]; omega
 have he : ∃ q, h'.get? s.heap.objs.size = some q := let ⟨q, _, _, hq, _⟩ := dd'; ⟨q, hq⟩
 exact aBd I2 (by rw [e]; exact True.intro) hs he (aJ5 hz hd (rk.merge .nil) dd')
section
variable {X : Cx} {pins : List (Addr × Obj)} {σ : St} {H : Hp} {s : Shared} {a : Addr} {y d : V} {u r : Value} {o : Option V} {A : Around} {E : Value -> Shared -> Prop}
end
section
variable {X : Cx} {o e f : Expr} {apos cpos : Pos} {td ty tx : TE}
end
section
variable {X : Cx} {pins : List (Addr × Obj)} {σ : St} {H : Hp} {s : Shared} {a : Addr} {kvs : List (Key × V)} {A : Around} {E : Value -> Shared -> Prop}
end
section
variable {X : Cx} {pins : List (Addr × Obj)} {σ : St} {H : Hp} {s : Shared} {a : Addr} {y : V} {u : Value} {A : Around} {E : Value -> Shared -> Prop}
end
end L2
set_option maxHeartbeats 1000000
namespace Pu
inductive D where
 | non | bl (b : Bool) | int (i : Int) | str (s : List Nat) | tup (xs : List D) | lst (xs : List D)
 | dct (t : Bool) (ks vs : List D)
 | ins (c : String) (ns : List String) (xs : List D)
 | exn (c : String) (ns : List String) (xs : List D)
inductive R (α : Type) where
 | ok (a : α) | exc (x : D) | bad
@[inline] def R.bind {α β : Type} (r : R α) (f : α -> R β) : R β := match r with
 | .ok a => f a
 | .exc x => .exc x
 | .bad => .bad
theorem R.ok_of {α β : Type} {r : R α} {f : α -> R β} {b : β} (h : r.bind f = .ok b) : ∃ a, r = .ok a /\ f a = .ok b := by
 cases r with
 | ok a => exact ⟨a, rfl, h⟩
 | exc x => exact nomatch h
 | bad => exact nomatch h
noncomputable section
open Classical in
def aH {α : Type} (c : Prop) (r : R α) : R α := if c then r else .bad
theorem aG {α : Type} {c : Prop} {r : R α} (h : c) : aH c r = r := if_pos h
theorem aJ {α : Type} {c : Prop} {r : R α} {a : α} (h : aH c r = .ok a) : c /\ r = .ok a := by
 unfold aH at h
 split at h
 ·exact ⟨by assumption, h⟩
 ·exact nomatch h
inductive OK where
 | l | d (t : Bool) (ks : List D) | i (n : Nat) (c : String) (ns : List String)
def ofK : OK -> List D -> D
 | .l, xs => .lst xs
 | .d t ks, xs => .dct t ks xs
 | .i _ c ns, xs => .ins c ns xs
inductive Sl where
 | v (d : D) | o (k : OK) (xs : List D)
abbrev PSt := List (Option Sl)
abbrev Ex := PSt -> R D
inductive Fl where
 | nx (st : PSt) | rt (d : D) | bk (st : PSt) | ct (st : PSt)
abbrev Bd := PSt -> R Fl
@[irreducible] def big : Nat := 10000000
theorem jZ : big = 10000000 := by unfold big; rfl
theorem aM {n : Nat} (h : n <= 10000000) : n <= big := by rw [jZ]; exact h
theorem aQ {n : Nat} (h : n < 10000000) : n < big := by rw [jZ]; exact h
theorem aL {n : Int} (h : n <= 10000000) : n <= (big : Int) := by rw [jZ]; exact h
theorem aK {n : Int} (h : -10000000 <= n) : -(big : Int) <= n := by rw [jZ]; exact h
def sIx (n d : Nat) : Option Int -> Nat
 | none => d
 | some v => if v < 0 then (v + (n : Int)).toNat else min v.toNat n
def ixN (n : Nat) (i : Int) : Option Nat := if 0 <= i then (if i < n then some i.toNat else none) else if -(n : Int) <= i then some (i + n).toNat else none
def atI {α : Type} (xs : List α) (i : Int) : Option α := (ixN xs.length i).bind fun j => xs[j]?
def cut {α : Type} (xs : List α) (lo hi : Option Int) : List α := (xs.drop (sIx xs.length 0 lo)).take (sIx xs.length xs.length hi - sIx xs.length 0 lo)
def ofO {α : Type} : Option α -> R α
 | some a => .ok a
 | none => .bad
abbrev Op2 := D -> D -> R D
def iW : Op2
 | .int i, .int j => .ok (.int (i + j))
 | .str x, .str y => aH (x.length + y.length <= big) (.ok (.str (x ++ y)))
 | .lst x, .lst y => aH (x.length + y.length <= big) (.ok (.lst (x ++ y)))
 | _, _ => .bad
def aJ8 : Op2
 | .int i, .int j => .ok (.int (i - j))
 | _, _ => .bad
def zZ : Op2
 | .int i, .int j => aH (0 < j /\ j < 1073741824) (.ok (.int (i / j)))
 | _, _ => .bad
def oK : Op2
 | .int i, .int j => aH (0 < j) (.ok (.int (i % j)))
 | _, _ => .bad
def aHh : Op2
 | .int i, .int j => aH (0 <= j /\ j <= 1000000 /\ i.natAbs < 18446744073709551616) (.ok (.int (i ^ j.toNat)))
 | _, _ => .bad
def wB : D -> R D
 | .int i => .ok (.int (-i))
 | _ => .bad
def aJ9 : D -> Bool
 | .int _ => true
 | .str _ => true
 | _ => false
def keyOk (t : Bool) (d : D) : Bool := match d with
 | .int _ => !t
 | .str _ => !t
 | .tup xs => t && xs.all aJ9
 | _ => false
mutual
def eqK : D -> D -> Bool
 | .int i, .int j => i == j
 | .str x, .str y => x == y
 | .tup x, .tup y => aEe x y
 | _, _ => false
def aEe : List D -> List D -> Bool
 | [], [] => true
 | a :: x, b :: y => eqK a b && aEe x y
 | _, _ => false
end
def qF (ks vs : List D) (k : D) : Option D := ((ks.zip vs).find? fun p => eqK p.1 k).map (·.2)
def kO (ks : List D) (k : D) : Bool := ks.any fun x => eqK x k
def nY (ks : List D) (k : D) : List D := if kO ks k = true then ks else ks ++ [k]
def qL (ks vs : List D) (k v : D) : List D := if kO ks k = true then (ks.zip vs).map (fun p => if eqK p.1 k = true then v else p.2) else vs ++ [v]
def dIx : Op2
 | .dct t ks vs, k => aH (keyOk t k = true) (ofO (qF ks vs k))
 | .lst x, .int i => ofO (atI x i)
 | .tup x, .int i => ofO (atI x i)
 | .str x, .int i => aH (x.length <= big) (ofO ((atI x i).map fun c => .str [c]))
 | _, _ => .bad
mutual
def eqD : D -> D -> Bool
 | .non, .non => true
 | .bl a, .bl b => a == b
 | .bl a, .int j => (if a then (1 : Int) else 0) == j
 | .int i, .bl b => i == (if b then (1 : Int) else 0)
 | .int i, .int j => i == j
 | .str x, .str y => x == y
 | .tup x, .tup y => dZ x y
 | .lst x, .lst y => dZ x y
 | _, _ => false
def dZ : List D -> List D -> Bool
 | [], [] => true
 | a :: x, b :: y => eqD a b && dZ x y
 | _, _ => false
end
mutual
def dep : D -> Nat
 | .tup x => dD x + 1
 | .lst x => dD x + 1
 | .non => 0
 | .bl _ => 0
 | .int _ => 0
 | .str _ => 0
 | .dct _ _ _ => 0
 | .ins _ _ _ => 0
 | .exn _ _ _ => 0
def dD : List D -> Nat
 | [] => 0
 | a :: x => max (dep a) (dD x)
end
mutual
def plain : D -> Bool
 | .tup x => cF x
 | .lst x => cF x
 | .non => true
 | .bl _ => true
 | .int _ => true
 | .str _ => true
 | .dct _ _ _ => false
 | .ins _ _ _ => false
 | .exn _ _ _ => false
def cF : List D -> Bool
 | [] => true
 | a :: x => plain a && cF x
end
def dEq : Op2 := fun a b => aH (dep a <= 64 /\ plain a = true /\ plain b = true) (.ok (.bl (eqD a b)))
def dNe : Op2 := fun a b => aH (dep a <= 64 /\ plain a = true /\ plain b = true) (.ok (.bl (!eqD a b)))
def dLe : Op2
 | .int i, .int j => .ok (.bl (decide (i <= j)))
 | _, _ => .bad
def dGt : Op2
 | .int i, .int j => .ok (.bl (decide (j < i)))
 | _, _ => .bad
def dGe : Op2
 | .int i, .int j => .ok (.bl (decide (j <= i)))
 | _, _ => .bad
def fJ : D -> R D
 | .dct false ks _ => .ok (.int ks.length)
 | .lst x => .ok (.int x.length)
 | .tup x => .ok (.int x.length)
 | .str x => aH (x.length <= big) (.ok (.int x.length))
 | _ => .bad
def xK : D -> Bool
 | .ins _ _ _ => false
 | .exn _ _ _ => false
 | _ => true
def aPv : D -> Bool
 | .str _ => true
 | _ => false
def aPw : D -> Bool
 | .bl _ => true
 | _ => false
def isIn : D -> Bool
 | .bl _ => true
 | .int _ => true
 | _ => false
def aJa : D -> Bool
 | .tup _ => true
 | _ => false
def aTd : D -> Bool
 | .dct _ _ _ => true
 | _ => false
def aCr : D -> Bool
 | .lst _ => true
 | _ => false
def fC (x y : List Nat) (lo : Nat) : Option Nat := (List.range' lo (x.length + 1 - lo)).find? fun i => decide (i + y.length <= x.length) && ((x.drop i).take y.length == y)
def lY : Option Nat -> Int
 | some i => i
 | none => -1
def lZ (x y : List Nat) : List Nat := (((x.dropWhile fun c => y.contains c).reverse).dropWhile fun c => y.contains c).reverse
abbrev Mop := D -> List D -> R D
def aA0 : Mop
 | .str x, [.str y] => .ok (.int (lY (fC x y 0)))
 | .str x, [.str y, .int i] => aH (0 <= i) (.ok (.int (lY (fC x y i.toNat))))
 | _, _ => .bad
def uN : Mop
 | .str x, [.str y] => (ofO (fC x y 0)).bind fun i => .ok (.int i)
 | _, _ => .bad
def xM : Mop
 | .str x, [.str y] => aH (x.length <= big) (.ok (.str (lZ x y)))
 | _, _ => .bad
def aA1 : D -> D -> R D
 | .int i, .int j => .ok (.int (if j > i then j else i))
 | _, _ => .bad
def aA2 : D -> D -> R D
 | .int i, .int j => .ok (.int (if j < i then j else i))
 | _, _ => .bad
def inD (x : D) (ys : List D) : Bool := ys.any fun y => eqD y x
def dIn : D -> D -> R D
 | k, .dct t ks _ => aH (keyOk t k = true) (.ok (.bl (kO ks k)))
 | x, .lst ys => aH (dD ys <= 60 /\ plain x = true /\ cF ys = true) (.ok (.bl (inD x ys)))
 | x, .tup ys => aH (dD ys <= 60 /\ plain x = true /\ cF ys = true) (.ok (.bl (inD x ys)))
 | .str x, .str y => .ok (.bl (fC y x 0).isSome)
 | _, _ => .bad
def lC : D -> D -> R D
 | k, .dct t ks _ => aH (keyOk t k = true) (.ok (.bl (!kO ks k)))
 | x, .lst ys => aH (dD ys <= 60 /\ plain x = true /\ cF ys = true) (.ok (.bl (!inD x ys)))
 | x, .tup ys => aH (dD ys <= 60 /\ plain x = true /\ cF ys = true) (.ok (.bl (!inD x ys)))
 | .str x, .str y => .ok (.bl (!(fC y x 0).isSome))
 | _, _ => .bad
def aB (i : Nat) : Ex := fun st => match st[i]? with
 | some (some (.v d)) => .ok d
 | _ => .bad
def dM (i : Nat) : Ex := fun st => match st[i]? with
 | some (some (.v d)) => .ok d
 | some (some (.o k xs)) => .ok (ofK k xs)
 | _ => .bad
def eC (d : D) : Ex := fun _ => .ok d
def e2 (op : Op2) (f g : Ex) : Ex := fun st => (f st).bind fun x => (g st).bind fun y => op x y
def e1 (op : D -> R D) (f : Ex) : Ex := fun st => (f st).bind op
def eB (p : D -> Bool) (f : Ex) : Ex := fun st => (f st).bind fun x => aH (xK x = true) (.ok (.bl (p x)))
def onB {α : Type} (d : D) (f : Bool -> R α) : R α := match d with
 | .bl b => f b
 | _ => .bad
theorem oY {α : Type} {d : D} {f : Bool -> R α} {a : α} (h : onB d f = .ok a) : ∃ b, d = .bl b /\ f b = .ok a := by
 cases d <;> first | exact ⟨_, rfl, h⟩ | exact nomatch h
def oZ (f g : Ex) : Ex := fun st => (f st).bind fun x => onB x fun b => if b = true then g st else .ok (.bl false)
def eOr (f g : Ex) : Ex := fun st => (f st).bind fun x => onB x fun b => if b = true then .ok (.bl true) else g st
def oM (f : Ex) : Ex := fun st => (f st).bind fun x => onB x fun b => .ok (.bl (!b))
abbrev Exs := PSt -> R (List D)
def bJ : Exs := fun _ => .ok []
def aC (f : Ex) (r : Exs) : Exs := fun st => (f st).bind fun x => (r st).bind fun xs => .ok (x :: xs)
def aBe (r : Exs) : Ex := fun st => (r st).bind fun xs => aH (xs.length <= big) (.ok (.tup xs))
def qG (r : Exs) : Ex := fun st => (r st).bind fun xs => aH (xs.length <= big) (.ok (.lst xs))
def bN (p : List D -> R D) (r : Exs) : Ex := fun st => (r st).bind p
def eMt (m : Mop) (f : Ex) (r : Exs) : Ex := fun st => (f st).bind fun x => (r st).bind fun xs => m x xs
def inI (d : D) {α : Type} (f : Int -> R α) : R α := match d with
 | .int i => f i
 | _ => .bad
theorem aBf {α : Type} {d : D} {f : Int -> R α} {a : α} (h : inI d f = .ok a) : ∃ i, d = .int i /\ f i = .ok a := by
 cases d <;> first | exact ⟨_, rfl, h⟩ | exact nomatch h
abbrev ExO := PSt -> R (Option Int)
def aA3 : ExO := fun _ => .ok none
def qM (f : Ex) : ExO := fun st => (f st).bind fun x => inI x fun i => .ok (some i)
def dSl (x : D) (lo hi : Option Int) : R D := match x with
 | .lst xs => .ok (.lst (cut xs lo hi))
 | .str xs => aH (xs.length <= big) (.ok (.str (cut xs lo hi)))
 | _ => .bad
def eSl (f : Ex) (lo hi : ExO) : Ex := fun st => (f st).bind fun x => (lo st).bind fun l => (hi st).bind fun h => dSl x l h
abbrev ItE := PSt -> R (List D)
def itE (f : Ex) : ItE := fun st => (f st).bind fun x => match x with
 | .lst xs => .ok xs
 | .tup xs => .ok xs
 | .str xs => aH (xs.length <= big) (.ok (xs.map fun c => .str [c]))
 | _ => .bad
def dR (lo : Int) (n : Nat) : List D := (List.range n).map fun (k : Nat) => .int (lo + (k : Int))
def lD (f : Ex) : ItE := fun st => (f st).bind fun x => inI x fun j => aH (-(big : Int) <= j /\ j <= (big : Int)) (.ok (dR 0 j.toNat))
def aM9 (f g : Ex) : ItE := fun st => (f st).bind fun x => (g st).bind fun y => inI x fun i => inI y fun j => aH (-(big : Int) <= i /\ i <= (big : Int) /\ -(big : Int) <= j /\ j <= (big : Int)) (.ok (dR i (j - i).toNat))
abbrev Tg := D -> PSt -> R PSt
def tgN (i : Nat) : Tg := fun d st => .ok (st.set i (some (.v d)))
def lE : List Nat -> List D -> PSt -> R PSt
 | [], [], st => .ok st
 | i :: is, d :: ds, st => lE is ds (st.set i (some (.v d)))
 | _, _, _ => .bad
def tgT (is : List Nat) : Tg := fun d st => match d with
 | .tup xs => lE is xs st
 | .lst xs => lE is xs st
 | _ => .bad
def lF (tg : Tg) (c f : Ex) (st : PSt) : List D -> R (List D)
 | [] => .ok []
 | d :: ds => (tg d st).bind fun s1 => (c s1).bind fun x => onB x fun b => if b = true then (f s1).bind fun y => (lF tg c f st ds).bind fun ys => .ok (y :: ys) else lF tg c f st ds
def clr (is : List Nat) (st : PSt) : PSt := is.foldl (fun s i => s.set i none) st
def cD (is : List Nat) (tg : Tg) (it : ItE) (c f : Ex) : Ex := fun st => (it st).bind fun xs => aH (xs.length <= big) ((lF tg c f (clr is st) xs).bind fun ys => .ok (.lst ys))
def cB : Ex := fun _ => .ok (.bl true)
def xN (r : R Fl) (f : PSt -> R Fl) : R Fl := r.bind fun x => match x with
 | .nx st => f st
 | .rt d => .ok (.rt d)
 | .bk st => .ok (.bk st)
 | .ct st => .ok (.ct st)
def dG : Bd := fun st => .ok (.nx st)
def bQ (a b : Bd) : Bd := fun st => xN (a st) b
def eO (i : Nat) (f : Ex) : Bd := fun st => (f st).bind fun d => .ok (.nx (st.set i (some (.v d))))
def pA (i : Nat) (f : Ex) : Bd := fun st => (f st).bind fun d => match d with
 | .lst xs => .ok (.nx (st.set i (some (.o .l xs))))
 | _ => .bad
def aPx (tg : Tg) (f : Ex) : Bd := fun st => (f st).bind fun d => (tg d st).bind fun s1 => .ok (.nx s1)
def aBg (i : Nat) (f : Ex) : Bd := fun st => (f st).bind fun d => match st[i]? with
 | some (some (.o .l xs)) => aH (xs.length < big) (.ok (.nx (st.set i (some (.o .l (xs ++ [d]))))))
 | _ => .bad
def aMa (i : Nat) (f : Ex) : Bd := fun st => (f st).bind fun d => match d with
 | .lst ys => (match st[i]? with
  | some (some (.o .l xs)) => aH (xs.length + ys.length <= big) (.ok (.nx (st.set i (some (.o .l (xs ++ ys))))))
  | _ => .bad)
 | _ => .bad
def aFm (i : Nat) (t : Bool) : Bd := fun st => .ok (.nx (st.set i (some (.o (.d t []) []))))
def sDPut (i : Nat) (g f : Ex) : Bd := fun st => (f st).bind fun d => (g st).bind fun k => match st[i]? with
 | some (some (.o (.d t ks) vs)) => aH (keyOk t k = true /\ vs.length < big) (.ok (.nx (st.set i (some (.o (.d t (nY ks k)) (qL ks vs k d))))))
 | _ => .bad
def aA4 (i : Nat) (c f : String) (e : Ex) : Bd := fun st => (e st).bind fun d => match st[i]? with
 | some (some (.o (.i n c' ns) xs)) => aH (c' = c /\ f ∉ ns /\ ns.length < 900) (.ok (.nx (st.set i (some (.o (.i n c' (ns ++ [f])) (xs ++ [d]))))))
 | _ => .bad
def iJ (c f : String) : D -> R D
 | .ins c' ns xs => aH (c' = c) (ofO ((ns.zip xs).lookup f))
 | _ => .bad
def pB (c m : String) (p : List D -> R D) (dv : List D) (f : Ex) (r : Exs) : Ex := fun st => (f st).bind fun x => (r st).bind fun xs => match x with
 | .ins c' ns _ => aH (c' = c /\ m ∉ ns) (p (x :: (xs ++ dv)))
 | _ => .bad
def aEf : Bd := fun _ => .bad
def fz1 (st : PSt) (i : Nat) : PSt := match st[i]? with
 | some (some (.o k xs)) => st.set i (some (.v (ofK k xs)))
 | _ => st
def sFz (is : List Nat) (b : Bd) : Bd := fun st => b (is.foldl fz1 st)
def eF (f : Ex) : Bd := fun st => (f st).bind fun d => .ok (.rt d)
def aHi (f : Ex) : Bd := fun st => (f st).bind fun _ => .ok (.nx st)
def sIf (c : Ex) (a b : Bd) : Bd := fun st => (c st).bind fun x => onB x fun q => if q = true then a st else b st
def forR (tg : Tg) (body : Bd) : List D -> PSt -> R Fl
 | [], st => .ok (.nx st)
 | d :: ds, st => (tg d st).bind fun s1 => (body s1).bind fun x => match x with
  | .nx s2 => forR tg body ds s2
  | .ct s2 => forR tg body ds s2
  | .bk s2 => .ok (.nx s2)
  | .rt v => .ok (.rt v)
def sH (tg : Tg) (it : ItE) (body : Bd) : Bd := fun st => (it st).bind fun xs => forR tg body xs st
def gP (c : Ex) (body : Bd) : Nat -> PSt -> R Fl
 | 0, _ => .bad
 | n + 1, st => (c st).bind fun x => onB x fun q => if q = true then (body st).bind fun x => (match x with
  | .nx s2 => gP c body n s2
  | .ct s2 => gP c body n s2
  | .bk s2 => .ok (.nx s2)
  | .rt v => .ok (.rt v)) else .ok (.nx st)
def aBh (n : Nat) (c : Ex) (body : Bd) : Bd := fun st => gP c body n st
def eN (np n : Nat) (b : Bd) (ds : List D) : R D :=
 aH (ds.length = np) ((b (ds.map (fun d => some (.v d)) ++ List.replicate (n - np) none)).bind fun x => match x with
  | .nx _ => .ok .non
  | .rt d => .ok d
  | _ => .bad)
def aA5 (c : String) (np n : Nat) (b : Bd) (x : Nat) (ds : List D) : R D :=
 aH (ds.length = np) ((b (some (.o (.i x c []) []) :: (ds.map (fun d => some (.v d)) ++ List.replicate (n - np - 1) none))).bind fun (fl : Fl) => match fl with
  | .nx st => (match (st[0]? : Option (Option Sl)) with
   | some (some (.o (.i y c' ns) xs)) => aH (y = x) (.ok (.ins c' ns xs))
   | _ => .bad)
  | _ => .bad)
open Classical in
def aBi (c : String) (np n : Nat) (b : Bd) (ds : List D) : R D := if h : ∃ d, ∀ x, aA5 c np n b x ds = .ok d then .ok (choose h) else .bad
theorem aMb {c : String} {np n : Nat} {b : Bd} {ds : List D} {d : D} (h : ∀ x, aA5 c np n b x ds = .ok d) : aBi c np n b ds = .ok d := by
 unfold aBi
 rw [dif_pos ⟨d, h⟩]
 have := Classical.choose_spec (p := fun d => ∀ x, aA5 c np n b x ds = .ok d) ⟨d, h⟩ 0
 rw [h 0] at this
 exact this.symm
theorem aFn {c : String} {np n : Nat} {b : Bd} {ds : List D} {d : D} (h : aBi c np n b ds = .ok d) (x : Nat) : aA5 c np n b x ds = .ok d := by
 unfold aBi at h
 split at h
 ·rename_i e
  have := Classical.choose_spec e x
  rw [this]
  exact h
 ·cases h
end
end Pu
namespace Pu
@[simp] theorem bg0 : 0 <= big := aM (by decide)
@[simp] theorem bl0 : 0 < big := aQ (by decide)
@[simp] theorem bi0 : (0 : Int) <= (big : Int) := aL (by decide)
@[simp] theorem bj0 : -(big : Int) <= (0 : Int) := aK (by decide)
@[simp] theorem bg1 : 1 <= big := aM (by decide)
@[simp] theorem bl1 : 1 < big := aQ (by decide)
@[simp] theorem bi1 : (1 : Int) <= (big : Int) := aL (by decide)
@[simp] theorem bj1 : -(big : Int) <= (1 : Int) := aK (by decide)
@[simp] theorem bg2 : 2 <= big := aM (by decide)
@[simp] theorem bl2 : 2 < big := aQ (by decide)
@[simp] theorem bi2 : (2 : Int) <= (big : Int) := aL (by decide)
@[simp] theorem bj2 : -(big : Int) <= (2 : Int) := aK (by decide)
@[simp] theorem bg3 : 3 <= big := aM (by decide)
@[simp] theorem bl3 : 3 < big := aQ (by decide)
@[simp] theorem bi3 : (3 : Int) <= (big : Int) := aL (by decide)
@[simp] theorem bj3 : -(big : Int) <= (3 : Int) := aK (by decide)
@[simp] theorem bg4 : 4 <= big := aM (by decide)
@[simp] theorem bl4 : 4 < big := aQ (by decide)
@[simp] theorem bi4 : (4 : Int) <= (big : Int) := aL (by decide)
@[simp] theorem bj4 : -(big : Int) <= (4 : Int) := aK (by decide)
@[simp] theorem bg5 : 5 <= big := aM (by decide)
@[simp] theorem bl5 : 5 < big := aQ (by decide)
@[simp] theorem bi5 : (5 : Int) <= (big : Int) := aL (by decide)
@[simp] theorem bj5 : -(big : Int) <= (5 : Int) := aK (by decide)
@[simp] theorem bg6 : 6 <= big := aM (by decide)
@[simp] theorem bl6 : 6 < big := aQ (by decide)
@[simp] theorem bi6 : (6 : Int) <= (big : Int) := aL (by decide)
@[simp] theorem bj6 : -(big : Int) <= (6 : Int) := aK (by decide)
@[simp] theorem bg7 : 7 <= big := aM (by decide)
@[simp] theorem bl7 : 7 < big := aQ (by decide)
@[simp] theorem bi7 : (7 : Int) <= (big : Int) := aL (by decide)
@[simp] theorem bj7 : -(big : Int) <= (7 : Int) := aK (by decide)
@[simp] theorem bg8 : 8 <= big := aM (by decide)
@[simp] theorem bl8 : 8 < big := aQ (by decide)
@[simp] theorem bi8 : (8 : Int) <= (big : Int) := aL (by decide)
@[simp] theorem bj8 : -(big : Int) <= (8 : Int) := aK (by decide)
@[simp] theorem bg9 : 9 <= big := aM (by decide)
@[simp] theorem bl9 : 9 < big := aQ (by decide)
@[simp] theorem bi9 : (9 : Int) <= (big : Int) := aL (by decide)
@[simp] theorem bj9 : -(big : Int) <= (9 : Int) := aK (by decide)
@[simp] theorem aXu : 10 <= big := aM (by decide)
@[simp] theorem aXv : 10 < big := aQ (by decide)
@[simp] theorem aXw : (10 : Int) <= (big : Int) := aL (by decide)
@[simp] theorem aXx : -(big : Int) <= (10 : Int) := aK (by decide)
@[simp] theorem aXy : 11 <= big := aM (by decide)
@[simp] theorem aXz : 11 < big := aQ (by decide)
@[simp] theorem aY0 : (11 : Int) <= (big : Int) := aL (by decide)
@[simp] theorem aY1 : -(big : Int) <= (11 : Int) := aK (by decide)
@[simp] theorem aY2 : 12 <= big := aM (by decide)
@[simp] theorem aY3 : 12 < big := aQ (by decide)
@[simp] theorem aY4 : (12 : Int) <= (big : Int) := aL (by decide)
@[simp] theorem aY5 : -(big : Int) <= (12 : Int) := aK (by decide)
@[simp] theorem aY6 : 13 <= big := aM (by decide)
@[simp] theorem aY7 : 13 < big := aQ (by decide)
@[simp] theorem aY8 : (13 : Int) <= (big : Int) := aL (by decide)
@[simp] theorem aY9 : -(big : Int) <= (13 : Int) := aK (by decide)
@[simp] theorem aYa : 14 <= big := aM (by decide)
@[simp] theorem aYb : 14 < big := aQ (by decide)
@[simp] theorem aYc : (14 : Int) <= (big : Int) := aL (by decide)
@[simp] theorem aYd : -(big : Int) <= (14 : Int) := aK (by decide)
@[simp] theorem aYe : 15 <= big := aM (by decide)
@[simp] theorem aYf : 15 < big := aQ (by decide)
@[simp] theorem aYg : (15 : Int) <= (big : Int) := aL (by decide)
@[simp] theorem aYh : -(big : Int) <= (15 : Int) := aK (by decide)
@[simp] theorem aYi : 16 <= big := aM (by decide)
@[simp] theorem aYj : 16 < big := aQ (by decide)
@[simp] theorem aYk : (16 : Int) <= (big : Int) := aL (by decide)
@[simp] theorem aYl : -(big : Int) <= (16 : Int) := aK (by decide)
@[simp] theorem aYm : 17 <= big := aM (by decide)
@[simp] theorem aYn : 17 < big := aQ (by decide)
@[simp] theorem aYo : (17 : Int) <= (big : Int) := aL (by decide)
@[simp] theorem aYp : -(big : Int) <= (17 : Int) := aK (by decide)
@[simp] theorem aYq : 18 <= big := aM (by decide)
@[simp] theorem aYr : 18 < big := aQ (by decide)
@[simp] theorem aYs : (18 : Int) <= (big : Int) := aL (by decide)
@[simp] theorem aYt : -(big : Int) <= (18 : Int) := aK (by decide)
@[simp] theorem aYu : 19 <= big := aM (by decide)
@[simp] theorem aYv : 19 < big := aQ (by decide)
@[simp] theorem aYw : (19 : Int) <= (big : Int) := aL (by decide)
@[simp] theorem aYx : -(big : Int) <= (19 : Int) := aK (by decide)
@[simp] theorem aYy : 20 <= big := aM (by decide)
@[simp] theorem aYz : 20 < big := aQ (by decide)
@[simp] theorem aZ0 : (20 : Int) <= (big : Int) := aL (by decide)
@[simp] theorem aZ1 : -(big : Int) <= (20 : Int) := aK (by decide)
@[simp] theorem aZ2 : 21 <= big := aM (by decide)
@[simp] theorem aZ3 : 21 < big := aQ (by decide)
@[simp] theorem aZ4 : (21 : Int) <= (big : Int) := aL (by decide)
@[simp] theorem aZ5 : -(big : Int) <= (21 : Int) := aK (by decide)
@[simp] theorem aZ6 : 22 <= big := aM (by decide)
@[simp] theorem aZ7 : 22 < big := aQ (by decide)
@[simp] theorem aZ8 : (22 : Int) <= (big : Int) := aL (by decide)
@[simp] theorem aZ9 : -(big : Int) <= (22 : Int) := aK (by decide)
@[simp] theorem aZa : 23 <= big := aM (by decide)
@[simp] theorem aZb : 23 < big := aQ (by decide)
@[simp] theorem aZc : (23 : Int) <= (big : Int) := aL (by decide)
@[simp] theorem aZd : -(big : Int) <= (23 : Int) := aK (by decide)
@[simp] theorem aZe : 24 <= big := aM (by decide)
@[simp] theorem aZf : 24 < big := aQ (by decide)
@[simp] theorem aZg : (24 : Int) <= (big : Int) := aL (by decide)
@[simp] theorem aZh : -(big : Int) <= (24 : Int) := aK (by decide)
@[simp] theorem aZi : 25 <= big := aM (by decide)
@[simp] theorem aZj : 25 < big := aQ (by decide)
@[simp] theorem aZk : (25 : Int) <= (big : Int) := aL (by decide)
@[simp] theorem aZl : -(big : Int) <= (25 : Int) := aK (by decide)
@[simp] theorem aZm : 26 <= big := aM (by decide)
@[simp] theorem aZn : 26 < big := aQ (by decide)
@[simp] theorem aZo : (26 : Int) <= (big : Int) := aL (by decide)
@[simp] theorem aZp : -(big : Int) <= (26 : Int) := aK (by decide)
@[simp] theorem aZq : 27 <= big := aM (by decide)
@[simp] theorem aZr : 27 < big := aQ (by decide)
@[simp] theorem aZs : (27 : Int) <= (big : Int) := aL (by decide)
@[simp] theorem aZt : -(big : Int) <= (27 : Int) := aK (by decide)
@[simp] theorem aZu : 28 <= big := aM (by decide)
@[simp] theorem aZv : 28 < big := aQ (by decide)
@[simp] theorem aZw : (28 : Int) <= (big : Int) := aL (by decide)
@[simp] theorem aZx : -(big : Int) <= (28 : Int) := aK (by decide)
@[simp] theorem aZy : 29 <= big := aM (by decide)
@[simp] theorem aZz : 29 < big := aQ (by decide)
@[simp] theorem bA0 : (29 : Int) <= (big : Int) := aL (by decide)
@[simp] theorem bA1 : -(big : Int) <= (29 : Int) := aK (by decide)
@[simp] theorem bA2 : 30 <= big := aM (by decide)
@[simp] theorem bA3 : 30 < big := aQ (by decide)
@[simp] theorem bA4 : (30 : Int) <= (big : Int) := aL (by decide)
@[simp] theorem bA5 : -(big : Int) <= (30 : Int) := aK (by decide)
@[simp] theorem bA6 : 31 <= big := aM (by decide)
@[simp] theorem bA7 : 31 < big := aQ (by decide)
@[simp] theorem bA8 : (31 : Int) <= (big : Int) := aL (by decide)
@[simp] theorem bA9 : -(big : Int) <= (31 : Int) := aK (by decide)
@[simp] theorem bAa : 32 <= big := aM (by decide)
@[simp] theorem bAb : 32 < big := aQ (by decide)
@[simp] theorem bAc : (32 : Int) <= (big : Int) := aL (by decide)
@[simp] theorem bAd : -(big : Int) <= (32 : Int) := aK (by decide)
@[simp] theorem bAe : 33 <= big := aM (by decide)
@[simp] theorem bAf : 33 < big := aQ (by decide)
@[simp] theorem bAg : (33 : Int) <= (big : Int) := aL (by decide)
@[simp] theorem bAh : -(big : Int) <= (33 : Int) := aK (by decide)
@[simp] theorem bAi : 34 <= big := aM (by decide)
@[simp] theorem bAj : 34 < big := aQ (by decide)
@[simp] theorem bAk : (34 : Int) <= (big : Int) := aL (by decide)
@[simp] theorem bAl : -(big : Int) <= (34 : Int) := aK (by decide)
@[simp] theorem bAm : 35 <= big := aM (by decide)
@[simp] theorem bAn : 35 < big := aQ (by decide)
@[simp] theorem bAo : (35 : Int) <= (big : Int) := aL (by decide)
@[simp] theorem bAp : -(big : Int) <= (35 : Int) := aK (by decide)
@[simp] theorem bAq : 36 <= big := aM (by decide)
@[simp] theorem bAr : 36 < big := aQ (by decide)
@[simp] theorem bAs : (36 : Int) <= (big : Int) := aL (by decide)
@[simp] theorem bAt : -(big : Int) <= (36 : Int) := aK (by decide)
@[simp] theorem bAu : 37 <= big := aM (by decide)
@[simp] theorem bAv : 37 < big := aQ (by decide)
@[simp] theorem bAw : (37 : Int) <= (big : Int) := aL (by decide)
@[simp] theorem bAx : -(big : Int) <= (37 : Int) := aK (by decide)
@[simp] theorem bAy : 38 <= big := aM (by decide)
@[simp] theorem bAz : 38 < big := aQ (by decide)
@[simp] theorem bB0 : (38 : Int) <= (big : Int) := aL (by decide)
@[simp] theorem bB1 : -(big : Int) <= (38 : Int) := aK (by decide)
@[simp] theorem bB2 : 39 <= big := aM (by decide)
@[simp] theorem bB3 : 39 < big := aQ (by decide)
@[simp] theorem bB4 : (39 : Int) <= (big : Int) := aL (by decide)
@[simp] theorem bB5 : -(big : Int) <= (39 : Int) := aK (by decide)
@[simp] theorem bB6 : 40 <= big := aM (by decide)
@[simp] theorem bB7 : 40 < big := aQ (by decide)
@[simp] theorem bB8 : (40 : Int) <= (big : Int) := aL (by decide)
@[simp] theorem bB9 : -(big : Int) <= (40 : Int) := aK (by decide)
@[simp] theorem bBa : 41 <= big := aM (by decide)
@[simp] theorem bBb : 41 < big := aQ (by decide)
@[simp] theorem bBc : (41 : Int) <= (big : Int) := aL (by decide)
@[simp] theorem bBd : -(big : Int) <= (41 : Int) := aK (by decide)
@[simp] theorem bBe : 42 <= big := aM (by decide)
@[simp] theorem bBf : 42 < big := aQ (by decide)
@[simp] theorem bBg : (42 : Int) <= (big : Int) := aL (by decide)
@[simp] theorem bBh : -(big : Int) <= (42 : Int) := aK (by decide)
@[simp] theorem bBi : 43 <= big := aM (by decide)
@[simp] theorem bBj : 43 < big := aQ (by decide)
@[simp] theorem bBk : (43 : Int) <= (big : Int) := aL (by decide)
@[simp] theorem bBl : -(big : Int) <= (43 : Int) := aK (by decide)
@[simp] theorem bBm : 44 <= big := aM (by decide)
@[simp] theorem bBn : 44 < big := aQ (by decide)
@[simp] theorem bBo : (44 : Int) <= (big : Int) := aL (by decide)
@[simp] theorem bBp : -(big : Int) <= (44 : Int) := aK (by decide)
@[simp] theorem bBq : 45 <= big := aM (by decide)
@[simp] theorem bBr : 45 < big := aQ (by decide)
@[simp] theorem bBs : (45 : Int) <= (big : Int) := aL (by decide)
@[simp] theorem bBt : -(big : Int) <= (45 : Int) := aK (by decide)
@[simp] theorem bBu : 46 <= big := aM (by decide)
@[simp] theorem bBv : 46 < big := aQ (by decide)
@[simp] theorem bBw : (46 : Int) <= (big : Int) := aL (by decide)
@[simp] theorem bBx : -(big : Int) <= (46 : Int) := aK (by decide)
@[simp] theorem bBy : 47 <= big := aM (by decide)
@[simp] theorem bBz : 47 < big := aQ (by decide)
@[simp] theorem bC0 : (47 : Int) <= (big : Int) := aL (by decide)
@[simp] theorem bC1 : -(big : Int) <= (47 : Int) := aK (by decide)
@[simp] theorem bC2 : 48 <= big := aM (by decide)
@[simp] theorem bC3 : 48 < big := aQ (by decide)
@[simp] theorem bC4 : (48 : Int) <= (big : Int) := aL (by decide)
@[simp] theorem bC5 : -(big : Int) <= (48 : Int) := aK (by decide)
@[simp] theorem bC6 : 49 <= big := aM (by decide)
@[simp] theorem bC7 : 49 < big := aQ (by decide)
@[simp] theorem bC8 : (49 : Int) <= (big : Int) := aL (by decide)
@[simp] theorem bC9 : -(big : Int) <= (49 : Int) := aK (by decide)
@[simp] theorem bCa : 50 <= big := aM (by decide)
@[simp] theorem bCb : 50 < big := aQ (by decide)
@[simp] theorem bCc : (50 : Int) <= (big : Int) := aL (by decide)
@[simp] theorem bCd : -(big : Int) <= (50 : Int) := aK (by decide)
@[simp] theorem bCe : 51 <= big := aM (by decide)
@[simp] theorem bCf : 51 < big := aQ (by decide)
@[simp] theorem bCg : (51 : Int) <= (big : Int) := aL (by decide)
@[simp] theorem bCh : -(big : Int) <= (51 : Int) := aK (by decide)
@[simp] theorem bCi : 52 <= big := aM (by decide)
@[simp] theorem bCj : 52 < big := aQ (by decide)
@[simp] theorem bCk : (52 : Int) <= (big : Int) := aL (by decide)
@[simp] theorem bCl : -(big : Int) <= (52 : Int) := aK (by decide)
@[simp] theorem bCm : 53 <= big := aM (by decide)
@[simp] theorem bCn : 53 < big := aQ (by decide)
@[simp] theorem bCo : (53 : Int) <= (big : Int) := aL (by decide)
@[simp] theorem bCp : -(big : Int) <= (53 : Int) := aK (by decide)
@[simp] theorem bCq : 54 <= big := aM (by decide)
@[simp] theorem bCr : 54 < big := aQ (by decide)
@[simp] theorem bCs : (54 : Int) <= (big : Int) := aL (by decide)
@[simp] theorem bCt : -(big : Int) <= (54 : Int) := aK (by decide)
@[simp] theorem bCu : 55 <= big := aM (by decide)
@[simp] theorem bCv : 55 < big := aQ (by decide)
@[simp] theorem bCw : (55 : Int) <= (big : Int) := aL (by decide)
@[simp] theorem bCx : -(big : Int) <= (55 : Int) := aK (by decide)
@[simp] theorem bCy : 56 <= big := aM (by decide)
@[simp] theorem bCz : 56 < big := aQ (by decide)
@[simp] theorem bD0 : (56 : Int) <= (big : Int) := aL (by decide)
@[simp] theorem bD1 : -(big : Int) <= (56 : Int) := aK (by decide)
@[simp] theorem bD2 : 57 <= big := aM (by decide)
@[simp] theorem bD3 : 57 < big := aQ (by decide)
@[simp] theorem bD4 : (57 : Int) <= (big : Int) := aL (by decide)
@[simp] theorem bD5 : -(big : Int) <= (57 : Int) := aK (by decide)
@[simp] theorem bD6 : 58 <= big := aM (by decide)
@[simp] theorem bD7 : 58 < big := aQ (by decide)
@[simp] theorem bD8 : (58 : Int) <= (big : Int) := aL (by decide)
@[simp] theorem bD9 : -(big : Int) <= (58 : Int) := aK (by decide)
@[simp] theorem bDa : 59 <= big := aM (by decide)
@[simp] theorem bDb : 59 < big := aQ (by decide)
@[simp] theorem bDc : (59 : Int) <= (big : Int) := aL (by decide)
@[simp] theorem bDd : -(big : Int) <= (59 : Int) := aK (by decide)
@[simp] theorem bDe : 60 <= big := aM (by decide)
@[simp] theorem bDf : 60 < big := aQ (by decide)
@[simp] theorem bDg : (60 : Int) <= (big : Int) := aL (by decide)
@[simp] theorem bDh : -(big : Int) <= (60 : Int) := aK (by decide)
@[simp] theorem bDi : 61 <= big := aM (by decide)
@[simp] theorem bDj : 61 < big := aQ (by decide)
@[simp] theorem bDk : (61 : Int) <= (big : Int) := aL (by decide)
@[simp] theorem bDl : -(big : Int) <= (61 : Int) := aK (by decide)
@[simp] theorem bDm : 62 <= big := aM (by decide)
@[simp] theorem bDn : 62 < big := aQ (by decide)
@[simp] theorem bDo : (62 : Int) <= (big : Int) := aL (by decide)
@[simp] theorem bDp : -(big : Int) <= (62 : Int) := aK (by decide)
@[simp] theorem bDq : 63 <= big := aM (by decide)
@[simp] theorem bDr : 63 < big := aQ (by decide)
@[simp] theorem bDs : (63 : Int) <= (big : Int) := aL (by decide)
@[simp] theorem bDt : -(big : Int) <= (63 : Int) := aK (by decide)
@[simp] theorem bDu : 64 <= big := aM (by decide)
@[simp] theorem bDv : 64 < big := aQ (by decide)
@[simp] theorem bDw : (64 : Int) <= (big : Int) := aL (by decide)
@[simp] theorem bDx : -(big : Int) <= (64 : Int) := aK (by decide)
@[simp] theorem aO {α β : Type} (a : α) (f : α -> R β) : (R.ok a).bind f = f a := rfl
@[simp] theorem aRy {α β : Type} (f : α -> R β) : (R.bad : R α).bind f = .bad := rfl
@[simp] theorem mC {α : Type} (b : Bool) (f : Bool -> R α) : onB (.bl b) f = f b := rfl
@[simp] theorem aV8 {α : Type} (i : Int) (f : Int -> R α) : inI (.int i) f = f i := rfl
@[simp] theorem aV9 (st : PSt) (f : PSt -> R Fl) : xN (.ok (.nx st)) f = f st := rfl
@[simp] theorem aVa (d : D) (f : PSt -> R Fl) : xN (.ok (.rt d)) f = .ok (.rt d) := rfl
@[simp] theorem aVb (i : Nat) (st : PSt) : aB i st = (match st[i]? with | some (some (.v d)) => R.ok d | _ => .bad) := rfl
@[simp] theorem aTe (i : Nat) (st : PSt) : dM i st = (match st[i]? with | some (some (.v d)) => R.ok d | some (some (.o k xs)) => .ok (ofK k xs) | _ => .bad) := rfl
@[simp] theorem aTf (d : D) (st : PSt) : eC d st = .ok d := rfl
@[simp] theorem aTg (op : Op2) (f g : Ex) (st : PSt) : e2 op f g st = (f st).bind fun x => (g st).bind fun y => op x y := rfl
@[simp] theorem aXo (op : D -> R D) (f : Ex) (st : PSt) : e1 op f st = (f st).bind op := rfl
@[simp] theorem aXp (p : D -> Bool) (f : Ex) (st : PSt) : eB p f st = (f st).bind fun x => aH (xK x = true) (.ok (.bl (p x))) := rfl
@[simp] theorem aFo (f g : Ex) (st : PSt) : oZ f g st = (f st).bind fun x => onB x fun b => if b = true then g st else .ok (.bl false) := rfl
@[simp] theorem aPy (f g : Ex) (st : PSt) : eOr f g st = (f st).bind fun x => onB x fun b => if b = true then .ok (.bl true) else g st := rfl
@[simp] theorem aFp (f : Ex) (st : PSt) : oM f st = (f st).bind fun x => onB x fun b => .ok (.bl (!b)) := rfl
@[simp] theorem aVc (st : PSt) : bJ st = .ok [] := rfl
@[simp] theorem aJb (f : Ex) (r : Exs) (st : PSt) : aC f r st = (f st).bind fun x => (r st).bind fun xs => .ok (x :: xs) := rfl
@[simp] theorem aVd (r : Exs) (st : PSt) : aBe r st = (r st).bind fun xs => aH (xs.length <= big) (.ok (.tup xs)) := rfl
@[simp] theorem aMc (r : Exs) (st : PSt) : qG r st = (r st).bind fun xs => aH (xs.length <= big) (.ok (.lst xs)) := rfl
@[simp] theorem aJc (p : List D -> R D) (r : Exs) (st : PSt) : bN p r st = (r st).bind p := rfl
@[simp] theorem aWy (m : Mop) (f : Ex) (r : Exs) (st : PSt) : eMt m f r st = (f st).bind fun x => (r st).bind fun xs => m x xs := rfl
@[simp] theorem aTh (st : PSt) : aA3 st = .ok none := rfl
@[simp] theorem aTi (f : Ex) (st : PSt) : qM f st = (f st).bind fun x => inI x fun i => .ok (some i) := rfl
@[simp] theorem aPz (f : Ex) (lo hi : ExO) (st : PSt) : eSl f lo hi st = (f st).bind fun x => (lo st).bind fun l => (hi st).bind fun h => dSl x l h := rfl
@[simp] theorem aMd (f : Ex) (st : PSt) : lD f st = (f st).bind fun x => inI x fun j => aH (-(big : Int) <= j /\ j <= (big : Int)) (.ok (dR 0 j.toNat)) := rfl
@[simp] theorem aMe (f g : Ex) (st : PSt) : aM9 f g st = (f st).bind fun x => (g st).bind fun y => inI x fun i => inI y fun j => aH (-(big : Int) <= i /\ i <= (big : Int) /\ -(big : Int) <= j /\ j <= (big : Int)) (.ok (dR i (j - i).toNat)) := rfl
@[simp] theorem aTj (tg : Tg) (b : Bd) (st : PSt) : forR tg b [] st = .ok (.nx st) := rfl
theorem nA (tg : Tg) (b : Bd) (d : D) (ds : List D) (st : PSt) : forR tg b (d :: ds) st = (tg d st).bind fun s1 => (b s1).bind fun x => match x with
  | .nx s2 => forR tg b ds s2
  | .ct s2 => forR tg b ds s2
  | .bk s2 => .ok (.nx s2)
  | .rt v => .ok (.rt v) := rfl
theorem lO (c : Ex) (b : Bd) (n : Nat) (st : PSt) : gP c b (n + 1) st = (c st).bind fun x => onB x fun q => if q = true then (b st).bind fun x => (match x with
  | .nx s2 => gP c b n s2
  | .ct s2 => gP c b n s2
  | .bk s2 => .ok (.nx s2)
  | .rt v => .ok (.rt v)) else .ok (.nx st) := rfl
@[simp] theorem aQ0 (f : Ex) (st : PSt) : itE f st = (f st).bind fun x => match x with | .lst xs => .ok xs | .tup xs => .ok xs | .str xs => aH (xs.length <= big) (.ok (xs.map fun c => .str [c])) | _ => .bad := rfl
@[simp] theorem aHj (n : Nat) (c : Ex) (b : Bd) (st : PSt) : aBh n c b st = gP c b n st := rfl
@[simp] theorem aMf (i : Nat) (f : Ex) (st : PSt) : aBg i f st = (f st).bind fun d => match st[i]? with | some (some (.o .l xs)) => aH (xs.length < big) (.ok (.nx (st.set i (some (.o .l (xs ++ [d])))))) | _ => .bad := rfl
@[simp] theorem aJd (i : Nat) (f : Ex) (st : PSt) : pA i f st = (f st).bind fun d => match d with | .lst xs => .ok (.nx (st.set i (some (.o .l xs)))) | _ => .bad := rfl
@[simp] theorem aMg (i : Nat) (f : Ex) (st : PSt) : aMa i f st = (f st).bind fun d => match d with | .lst ys => (match st[i]? with | some (some (.o .l xs)) => aH (xs.length + ys.length <= big) (.ok (.nx (st.set i (some (.o .l (xs ++ ys)))))) | _ => .bad) | _ => .bad := rfl
@[simp] theorem aJe (i : Nat) (c f : String) (e : Ex) (st : PSt) : aA4 i c f e st = (e st).bind fun d => match st[i]? with | some (some (.o (.i n c' ns) xs)) => aH (c' = c /\ f ∉ ns /\ ns.length < 900) (.ok (.nx (st.set i (some (.o (.i n c' (ns ++ [f])) (xs ++ [d])))))) | _ => .bad := rfl
@[simp] theorem sI (c f c' : String) (ns : List String) (xs : List D) : iJ c f (.ins c' ns xs) = aH (c' = c) (ofO ((ns.zip xs).lookup f)) := rfl
@[simp] theorem aJf (c m : String) (p : List D -> R D) (dv : List D) (f : Ex) (r : Exs) (st : PSt) : pB c m p dv f r st = (f st).bind fun x => (r st).bind fun xs => match x with | .ins c' ns _ => aH (c' = c /\ m ∉ ns) (p (x :: (xs ++ dv))) | _ => .bad := rfl
@[simp] theorem aTk (i : Nat) (t : Bool) (st : PSt) : aFm i t st = .ok (.nx (st.set i (some (.o (.d t []) [])))) := rfl
@[simp] theorem aTl (i : Nat) (g f : Ex) (st : PSt) : sDPut i g f st = (f st).bind fun d => (g st).bind fun k => match st[i]? with | some (some (.o (.d t ks) vs)) => aH (keyOk t k = true /\ vs.length < big) (.ok (.nx (st.set i (some (.o (.d t (nY ks k)) (qL ks vs k d)))))) | _ => .bad := rfl
@[simp] theorem aVe (t : Bool) (ks vs : List D) (k : D) : dIx (.dct t ks vs) k = aH (keyOk t k = true) (ofO (qF ks vs k)) := by cases k <;> rfl
@[simp] theorem aVf (t : Bool) (ks vs : List D) (k : D) : dIn k (.dct t ks vs) = aH (keyOk t k = true) (.ok (.bl (kO ks k))) := by cases k <;> rfl
@[simp] theorem aQ1 (t : Bool) (ks vs : List D) (k : D) : lC k (.dct t ks vs) = aH (keyOk t k = true) (.ok (.bl (!kO ks k))) := by cases k <;> rfl
@[simp] theorem aTm (ks vs : List D) : fJ (.dct false ks vs) = .ok (.int ks.length) := rfl
@[simp] theorem aWz (is : List Nat) (b : Bd) (st : PSt) : sFz is b st = b (is.foldl fz1 st) := rfl
@[simp] theorem aX0 (st : PSt) (i : Nat) : fz1 st i = (match st[i]? with | some (some (.o k xs)) => st.set i (some (.v (ofK k xs))) | _ => st) := rfl
@[simp] theorem aVg (f : Ex) (st : PSt) : aHi f st = (f st).bind fun _ => .ok (.nx st) := rfl
@[simp] theorem aVh (st : PSt) (f : PSt -> R Fl) : xN (.ok (.bk st)) f = .ok (.bk st) := rfl
@[simp] theorem aVi (st : PSt) (f : PSt -> R Fl) : xN (.ok (.ct st)) f = .ok (.ct st) := rfl
@[simp] theorem aTn (f : PSt -> R Fl) : xN .bad f = .bad := rfl
@[simp] theorem aTo (i : Int) : wB (.int i) = .ok (.int (-i)) := rfl
@[simp] theorem aVj (x y : List Nat) : aA0 (.str x) [.str y] = .ok (.int (lY (fC x y 0))) := rfl
@[simp] theorem aVk (x y : List Nat) (i : Int) : aA0 (.str x) [.str y, .int i] = aH (0 <= i) (.ok (.int (lY (fC x y i.toNat)))) := rfl
@[simp] theorem aTp (x y : List Nat) : uN (.str x) [.str y] = (ofO (fC x y 0)).bind fun i => .ok (.int i) := rfl
@[simp] theorem aTq (x y : List Nat) : xM (.str x) [.str y] = aH (x.length <= big) (.ok (.str (lZ x y))) := rfl
@[simp] theorem aO2 (i : Nat) : lY (some i) = i := rfl
@[simp] theorem aO3 : lY none = -1 := rfl
@[simp] theorem aRz (i j : Int) : aA1 (.int i) (.int j) = .ok (.int (if j > i then j else i)) := rfl
@[simp] theorem aS0 (i j : Int) : aA2 (.int i) (.int j) = .ok (.int (if j < i then j else i)) := rfl
@[simp] theorem aVl (x y : List Nat) : dIn (.str x) (.str y) = .ok (.bl (fC y x 0).isSome) := rfl
@[simp] theorem aQ2 (x y : List Nat) : lC (.str x) (.str y) = .ok (.bl (!(fC y x 0).isSome)) := rfl
@[simp] theorem aVm (x : D) (ys : List D) : dIn x (.lst ys) = aH (dD ys <= 60 /\ plain x = true /\ cF ys = true) (.ok (.bl (inD x ys))) := by cases x <;> rfl
@[simp] theorem aVn (x : D) (ys : List D) : dIn x (.tup ys) = aH (dD ys <= 60 /\ plain x = true /\ cF ys = true) (.ok (.bl (inD x ys))) := by cases x <;> rfl
@[simp] theorem aQ3 (x : D) (ys : List D) : lC x (.lst ys) = aH (dD ys <= 60 /\ plain x = true /\ cF ys = true) (.ok (.bl (!inD x ys))) := by cases x <;> rfl
@[simp] theorem aQ4 (x : D) (ys : List D) : lC x (.tup ys) = aH (dD ys <= 60 /\ plain x = true /\ cF ys = true) (.ok (.bl (!inD x ys))) := by cases x <;> rfl
@[simp] theorem aTr (x : List D) : fJ (.tup x) = .ok (.int x.length) := rfl
@[simp] theorem aVo (i j : Int) : dGe (.int i) (.int j) = .ok (.bl (decide (j <= i))) := rfl
@[simp] theorem aTs (x y : List D) : iW (.lst x) (.lst y) = aH (x.length + y.length <= big) (.ok (.lst (x ++ y))) := rfl
@[simp] theorem aVp (x : List D) (l h : Option Int) : dSl (.lst x) l h = .ok (.lst (cut x l h)) := rfl
@[simp] theorem aTt : xK .non = true := rfl
@[simp] theorem aVq (b : Bool) : xK (.bl b) = true := rfl
@[simp] theorem aTu (b : Int) : xK (.int b) = true := rfl
@[simp] theorem aTv (b : List Nat) : xK (.str b) = true := rfl
@[simp] theorem aTw (b : List D) : xK (.tup b) = true := rfl
@[simp] theorem aTx (b : List D) : xK (.lst b) = true := rfl
@[simp] theorem aTy (t : Bool) (a b : List D) : xK (.dct t a b) = true := rfl
@[simp] theorem aX1 (i : Nat) (d : D) (st : PSt) : tgN i d st = .ok (st.set i (some (.v d))) := rfl
@[simp] theorem aX2 (is : List Nat) (xs : List D) (st : PSt) : tgT is (.tup xs) st = lE is xs st := rfl
@[simp] theorem aVr (is : List Nat) (xs : List D) (st : PSt) : tgT is (.lst xs) st = lE is xs st := rfl
@[simp] theorem aQ5 (st : PSt) : lE [] [] st = .ok st := rfl
@[simp] theorem aO4 (i : Nat) (is : List Nat) (d : D) (ds : List D) (st : PSt) : lE (i :: is) (d :: ds) st = lE is ds (st.set i (some (.v d))) := rfl
@[simp] theorem aVs (st : PSt) : clr [] st = st := rfl
@[simp] theorem aTz (i : Nat) (is : List Nat) (st : PSt) : clr (i :: is) st = clr is (st.set i none) := rfl
@[simp] theorem aS1 (tg : Tg) (c f : Ex) (st : PSt) : lF tg c f st [] = .ok [] := rfl
theorem rC (tg : Tg) (c f : Ex) (st : PSt) (d : D) (ds : List D) : lF tg c f st (d :: ds) = (tg d st).bind fun s1 => (c s1).bind fun x => onB x fun b => if b = true then (f s1).bind fun y => (lF tg c f st ds).bind fun ys => .ok (y :: ys) else lF tg c f st ds := rfl
@[simp] theorem aU0 (st : PSt) : cB st = .ok (.bl true) := rfl
@[simp] theorem aJg (is : List Nat) (tg : Tg) (it : ItE) (c f : Ex) (st : PSt) : cD is tg it c f st = (it st).bind fun xs => aH (xs.length <= big) ((lF tg c f (clr is st) xs).bind fun ys => .ok (.lst ys)) := rfl
@[simp] theorem aU1 (st : PSt) : dG st = .ok (.nx st) := rfl
@[simp] theorem aFq (a b : Bd) (st : PSt) : bQ a b st = xN (a st) b := rfl
@[simp] theorem aMh (i : Nat) (f : Ex) (st : PSt) : eO i f st = (f st).bind fun d => .ok (.nx (st.set i (some (.v d)))) := rfl
@[simp] theorem aVt (tg : Tg) (f : Ex) (st : PSt) : aPx tg f st = (f st).bind fun d => (tg d st).bind fun s1 => .ok (.nx s1) := rfl
@[simp] theorem wM (f : Ex) (st : PSt) : eF f st = (f st).bind fun d => .ok (.rt d) := rfl
@[simp] theorem aEg (c : Ex) (a b : Bd) (st : PSt) : sIf c a b st = (c st).bind fun x => onB x fun q => if q = true then a st else b st := rfl
@[simp] theorem aMi (tg : Tg) (it : ItE) (body : Bd) (st : PSt) : sH tg it body st = (it st).bind fun xs => forR tg body xs st := rfl
@[simp] theorem aU2 (i j : Int) : iW (.int i) (.int j) = .ok (.int (i + j)) := rfl
@[simp] theorem aU3 (x y : List Nat) : iW (.str x) (.str y) = aH (x.length + y.length <= big) (.ok (.str (x ++ y))) := rfl
@[simp] theorem aU4 (i j : Int) : aJ8 (.int i) (.int j) = .ok (.int (i - j)) := rfl
@[simp] theorem aS2 (i j : Int) : zZ (.int i) (.int j) = aH (0 < j /\ j < 1073741824) (.ok (.int (i / j))) := rfl
@[simp] theorem aU5 (i j : Int) : oK (.int i) (.int j) = aH (0 < j) (.ok (.int (i % j))) := rfl
@[simp] theorem aU6 (i j : Int) : aHh (.int i) (.int j) = aH (0 <= j /\ j <= 1000000 /\ i.natAbs < 18446744073709551616) (.ok (.int (i ^ j.toNat))) := rfl
@[simp] theorem aVu (i j : Int) : dLe (.int i) (.int j) = .ok (.bl (decide (i <= j))) := rfl
@[simp] theorem aVv (i j : Int) : dGt (.int i) (.int j) = .ok (.bl (decide (j < i))) := rfl
@[simp] theorem aEh (x y : D) : dEq x y = aH (dep x <= 64 /\ plain x = true /\ plain y = true) (.ok (.bl (eqD x y))) := rfl
@[simp] theorem aEi (x y : D) : dNe x y = aH (dep x <= 64 /\ plain x = true /\ plain y = true) (.ok (.bl (!eqD x y))) := rfl
@[simp] theorem aVw : dep .non = 0 := by unfold dep; rfl
@[simp] theorem aX3 (b : Bool) : dep (.bl b) = 0 := by unfold dep; rfl
@[simp] theorem aVx (i : Int) : dep (.int i) = 0 := by unfold dep; rfl
@[simp] theorem aVy (s : List Nat) : dep (.str s) = 0 := by unfold dep; rfl
@[simp] theorem aVz (x : List D) : dep (.tup x) = dD x + 1 := by conv => lhs; unfold dep
@[simp] theorem aW0 (x : List D) : dep (.lst x) = dD x + 1 := by conv => lhs; unfold dep
@[simp] theorem aS3 : plain .non = true := by unfold plain; rfl
@[simp] theorem aU7 (b : Bool) : plain (.bl b) = true := by unfold plain; rfl
@[simp] theorem aS4 (i : Int) : plain (.int i) = true := by unfold plain; rfl
@[simp] theorem aS5 (s : List Nat) : plain (.str s) = true := by unfold plain; rfl
@[simp] theorem aS6 (x : List D) : plain (.tup x) = cF x := by conv => lhs; unfold plain
@[simp] theorem aS7 (x : List D) : plain (.lst x) = cF x := by conv => lhs; unfold plain
@[simp] theorem aS8 (t : Bool) (k v : List D) : plain (.dct t k v) = false := by unfold plain; rfl
@[simp] theorem aS9 (c : String) (n : List String) (v : List D) : plain (.ins c n v) = false := by unfold plain; rfl
@[simp] theorem aSa (c : String) (n : List String) (v : List D) : plain (.exn c n v) = false := by unfold plain; rfl
@[simp] theorem aQ6 : cF [] = true := by unfold cF; rfl
@[simp] theorem eY (a : D) (x : List D) : cF (a :: x) = (plain a && cF x) := by conv => lhs; unfold cF
@[simp] theorem aU8 : dD [] = 0 := by unfold dD; rfl
@[simp] theorem pW (a : D) (x : List D) : dD (a :: x) = max (dep a) (dD x) := by conv => lhs; unfold dD
@[simp] theorem aW1 (i j : Int) : eqD (.int i) (.int j) = (i == j) := by unfold eqD; rfl
@[simp] theorem aW2 (i j : List Nat) : eqD (.str i) (.str j) = (i == j) := by unfold eqD; rfl
@[simp] theorem aO5 : eqD .non .non = true := by unfold eqD; rfl
@[simp] theorem aQ7 (b : Bool) : eqD .non (.bl b) = false := by unfold eqD; rfl
@[simp] theorem aO6 (j : Int) : eqD .non (.int j) = false := by unfold eqD; rfl
@[simp] theorem aO7 (t : List Nat) : eqD .non (.str t) = false := by unfold eqD; rfl
@[simp] theorem aO8 (y : List D) : eqD .non (.tup y) = false := by unfold eqD; rfl
@[simp] theorem aO9 (y : List D) : eqD .non (.lst y) = false := by unfold eqD; rfl
@[simp] theorem aQ8 (a : Bool) : eqD (.bl a) .non = false := by unfold eqD; rfl
@[simp] theorem aSb (a : Bool) (b : Bool) : eqD (.bl a) (.bl b) = (a == b) := by unfold eqD; rfl
@[simp] theorem aQ9 (a : Bool) (j : Int) : eqD (.bl a) (.int j) = ((if a then (1 : Int) else 0) == j) := by unfold eqD; rfl
@[simp] theorem aQa (a : Bool) (t : List Nat) : eqD (.bl a) (.str t) = false := by unfold eqD; rfl
@[simp] theorem aQb (a : Bool) (y : List D) : eqD (.bl a) (.tup y) = false := by unfold eqD; rfl
@[simp] theorem aQc (a : Bool) (y : List D) : eqD (.bl a) (.lst y) = false := by unfold eqD; rfl
@[simp] theorem aOa (i : Int) : eqD (.int i) .non = false := by unfold eqD; rfl
@[simp] theorem aQd (i : Int) (b : Bool) : eqD (.int i) (.bl b) = (i == (if b then (1 : Int) else 0)) := by unfold eqD; rfl
@[simp] theorem aOb (i : Int) (t : List Nat) : eqD (.int i) (.str t) = false := by unfold eqD; rfl
@[simp] theorem aOc (i : Int) (y : List D) : eqD (.int i) (.tup y) = false := by unfold eqD; rfl
@[simp] theorem aOd (i : Int) (y : List D) : eqD (.int i) (.lst y) = false := by unfold eqD; rfl
@[simp] theorem aOe (s : List Nat) : eqD (.str s) .non = false := by unfold eqD; rfl
@[simp] theorem aQe (s : List Nat) (b : Bool) : eqD (.str s) (.bl b) = false := by unfold eqD; rfl
@[simp] theorem aOf (s : List Nat) (j : Int) : eqD (.str s) (.int j) = false := by unfold eqD; rfl
@[simp] theorem aOg (s : List Nat) (y : List D) : eqD (.str s) (.tup y) = false := by unfold eqD; rfl
@[simp] theorem aOh (s : List Nat) (y : List D) : eqD (.str s) (.lst y) = false := by unfold eqD; rfl
@[simp] theorem aOi (x : List D) : eqD (.tup x) .non = false := by unfold eqD; rfl
@[simp] theorem aQf (x : List D) (b : Bool) : eqD (.tup x) (.bl b) = false := by unfold eqD; rfl
@[simp] theorem aOj (x : List D) (j : Int) : eqD (.tup x) (.int j) = false := by unfold eqD; rfl
@[simp] theorem aOk (x : List D) (t : List Nat) : eqD (.tup x) (.str t) = false := by unfold eqD; rfl
@[simp] theorem aOl (x : List D) (y : List D) : eqD (.tup x) (.tup y) = dZ x y := by conv => lhs; unfold eqD
@[simp] theorem aOm (x : List D) (y : List D) : eqD (.tup x) (.lst y) = false := by unfold eqD; rfl
@[simp] theorem aOn (x : List D) : eqD (.lst x) .non = false := by unfold eqD; rfl
@[simp] theorem aQg (x : List D) (b : Bool) : eqD (.lst x) (.bl b) = false := by unfold eqD; rfl
@[simp] theorem aOo (x : List D) (j : Int) : eqD (.lst x) (.int j) = false := by unfold eqD; rfl
@[simp] theorem aOp (x : List D) (t : List Nat) : eqD (.lst x) (.str t) = false := by unfold eqD; rfl
@[simp] theorem aOq (x : List D) (y : List D) : eqD (.lst x) (.tup y) = false := by unfold eqD; rfl
@[simp] theorem aOr (x : List D) (y : List D) : eqD (.lst x) (.lst y) = dZ x y := by conv => lhs; unfold eqD
@[simp] theorem aMj : dZ [] [] = true := by unfold dZ; rfl
@[simp] theorem aLj (b : D) (y : List D) : dZ [] (b :: y) = false := by unfold dZ; rfl
@[simp] theorem aLk (b : D) (y : List D) : dZ (b :: y) [] = false := by unfold dZ; rfl
@[simp] theorem aJh (a b : D) (x y : List D) : dZ (a :: x) (b :: y) = (eqD a b && dZ x y) := by conv => lhs; unfold dZ
@[simp] theorem aU9 (x : List Nat) : fJ (.str x) = aH (x.length <= big) (.ok (.int x.length)) := rfl
@[simp] theorem aUa (x : List D) : fJ (.lst x) = .ok (.int x.length) := rfl
@[simp] theorem aW3 (x : List Nat) (i : Int) : dIx (.str x) (.int i) = aH (x.length <= big) (ofO ((atI x i).map fun c => .str [c])) := rfl
@[simp] theorem aW4 (x : List D) (i : Int) : dIx (.tup x) (.int i) = ofO (atI x i) := rfl
@[simp] theorem aW5 (x : List D) (i : Int) : dIx (.lst x) (.int i) = ofO (atI x i) := rfl
@[simp] theorem aW6 (x : List Nat) (l h : Option Int) : dSl (.str x) l h = aH (x.length <= big) (.ok (.str (cut x l h))) := rfl
@[simp] theorem aXq (xs : List D) : ofK .l xs = .lst xs := rfl
@[simp] theorem aXr (t : Bool) (ks xs : List D) : ofK (.d t ks) xs = .dct t ks xs := rfl
@[simp] theorem aXs (n : Nat) (c : String) (ns : List String) (xs : List D) : ofK (.i n c ns) xs = .ins c ns xs := rfl
@[simp] theorem aUb {α : Type} (a : α) : ofO (some a) = .ok a := rfl
@[simp] theorem gR {α : Type} {c : Prop} {r : R α} (h : c) : aH c r = r := aG h
@[simp] theorem aOs (n : Nat) : -(big : Int) <= (n : Int) := aK (by omega)
@[simp] theorem aOt {n : Int} (h : 0 <= n) : -(big : Int) <= n := aK (by omega)
@[simp] theorem aFr {np n : Nat} {b : Bd} {ds : List D} (h : ds.length = np) : eN np n b ds = (b (ds.map (fun d => some (.v d)) ++ List.replicate (n - np) none)).bind fun x => match x with
  | .nx _ => .ok .non
  | .rt d => .ok d
  | _ => .bad := aG h
theorem aQh {α : Type} {xs : List α} {i : Int} (h0 : 0 <= i) (h : i < xs.length) : atI xs i = some (xs[i.toNat]'(by omega)) := by
 unfold atI ixN
 rw [if_pos h0, if_pos h]
 exact List.getElem?_eq_getElem (by omega)
theorem atI_nat {α : Type} {xs : List α} {i : Nat} (h : i < xs.length) : atI xs (i : Int) = some xs[i] := by
 rw [aQh (by omega) (by omega)]
 simp
theorem jM (lo : Int) (n : Nat) : (dR lo n).length = n := by simp [dR]
end Pu
namespace Pu
def xO : D -> R D
 | .lst x => .ok (.lst x)
 | .tup x => .ok (.lst x)
 | _ => .bad
def bls : List D -> R (List Bool)
 | [] => .ok []
 | .bl b :: r => (bls r).bind fun x => .ok (b :: x)
 | _ :: _ => .bad
def xP : List D -> R (List Int)
 | [] => .ok []
 | .int i :: r => (xP r).bind fun x => .ok (i :: x)
 | _ :: _ => .bad
def sJ : List D -> R (List (List Nat))
 | [] => .ok []
 | .str s :: r => (sJ r).bind fun x => .ok (s :: x)
 | _ :: _ => .bad
def wC : D -> R D
 | .lst x => (bls x).bind fun l => .ok (.bl (l.all id))
 | _ => .bad
def zJ : List Int -> Int
 | [] => 0
 | i :: r => r.foldl (fun a b => if b > a then b else a) i
noncomputable def aCs : D -> R D
 | .lst x => (xP x).bind fun l => aH (0 < l.length) (.ok (.int (zJ l)))
 | _ => .bad
def sO (sep : List Nat) : List (List Nat) -> List Nat
 | [] => []
 | [x] => x
 | x :: r => x ++ sep ++ sO sep r
noncomputable def aA6 : Mop
 | .str sep, [.lst x] => (sJ x).bind fun l => aH ((l.map List.length).sum + l.length * sep.length <= big) (.ok (.str (sO sep l)))
 | _, _ => .bad
theorem aJi : ∀ {x : List D} {l : List Bool}, bls x = .ok l -> x = l.map D.bl
 | [], l, h => by cases h; rfl
 | d :: x, l, h => by
  cases d <;> first | (cases h; done) | skip
  obtain ⟨l', h1, h2⟩ := R.ok_of h
  cases h2
  rw [aJi h1]; rfl
theorem xQ : ∀ {x : List D} {l : List Int}, xP x = .ok l -> x = l.map D.int
 | [], l, h => by cases h; rfl
 | d :: x, l, h => by
  cases d <;> first | (cases h; done) | skip
  obtain ⟨l', h1, h2⟩ := R.ok_of h
  cases h2
  rw [xQ h1]; rfl
theorem aCt : ∀ {x : List D} {l : List (List Nat)}, sJ x = .ok l -> x = l.map D.str
 | [], l, h => by cases h; rfl
 | d :: x, l, h => by
  cases d <;> first | (cases h; done) | skip
  obtain ⟨l', h1, h2⟩ := R.ok_of h
  cases h2
  rw [aCt h1]; rfl
theorem aFs : ∀ (l : List Bool), bls (l.map D.bl) = .ok l
 | [] => rfl
 | b :: l => by show (bls (l.map D.bl)).bind _ = _; rw [aFs l]; rfl
theorem uO : ∀ (l : List Int), xP (l.map D.int) = .ok l
 | [] => rfl
 | b :: l => by show (xP (l.map D.int)).bind _ = _; rw [uO l]; rfl
theorem aA7 : ∀ (l : List (List Nat)), sJ (l.map D.str) = .ok l
 | [] => rfl
 | b :: l => by show (sJ (l.map D.str)).bind _ = _; rw [aA7 l]; rfl
theorem uP : ∀ (r : List Int) (a : Int), a <= r.foldl (fun a b => if b > a then b else a) a /\ (∀ x ∈ r, x <= r.foldl (fun a b => if b > a then b else a) a) /\ (r.foldl (fun a b => if b > a then b else a) a = a \/ r.foldl (fun a b => if b > a then b else a) a ∈ r)
 | [], a => ⟨Int.le_refl _, fun _ h => (by cases h), .inl rfl⟩
 | b :: r, a => by
  obtain ⟨h1, h2, h3⟩ := uP r (if b > a then b else a)
  rw [List.foldl_cons]
  have ha : a <= (if b > a then b else a) := by split <;> omega
  have hb : b <= (if b > a then b else a) := by split <;> omega
  refine ⟨Int.le_trans ha h1, fun x hx => ?_, ?_⟩
  ·rcases List.mem_cons.mp hx with rfl | hx
   ·exact Int.le_trans hb h1
   ·exact h2 x hx
  ·rcases h3 with h3 | h3
   ·rw [h3]
    split
    ·exact .inr List.mem_cons_self
    ·exact .inl rfl
   ·exact .inr (List.mem_cons_of_mem _ h3)
theorem aFt {l : List Int} {m : Int} (hm : m ∈ l) (hx : ∀ x ∈ l, x <= m) : zJ l = m := by
 cases l with
 | nil => cases hm
 | cons i r =>
  obtain ⟨h1, h2, h3⟩ := uP r i
  have ha : zJ (i :: r) <= m := by
   rcases h3 with h3 | h3
   ·exact hx _ (by show r.foldl _ i ∈ _; rw [h3]; exact List.mem_cons_self)
   ·exact hx _ (List.mem_cons_of_mem _ h3)
  have hb : m <= zJ (i :: r) := by
   rcases List.mem_cons.mp hm with e | e
   ·rw [e]; exact h1
   ·exact h2 _ e
  omega
def R.nox {α : Type} (r : R α) : R α := match r with
 | .exc _ => .bad
 | r => r
theorem R.nox_ok {α : Type} {r : R α} {a : α} (h : r.nox = .ok a) : r = .ok a := by
 cases r with
 | ok b => exact h
 | exc x => cases h
 | bad => cases h
@[simp] theorem aW7 {α : Type} (a : α) : (R.ok a).nox = .ok a := rfl
def sNX (b : Bd) : Bd := fun st => (b st).nox
def eNX (f : Ex) : Ex := fun st => (f st).nox
def pNX (p : List D -> R D) : List D -> R D := fun ds => (p ds).nox
noncomputable def xR (c : String) (r : Exs) : Bd := fun st => (r st).nox.bind fun xs => aH (xs.length <= 100) (.exc (.exn c [] []))
def aJj : List (List String × List String × (String -> Bd)) -> String -> PSt -> R Fl
 | [], _, _ => .bad
 | (yes, no, b) :: hs, c, st => if c ∈ yes then (b c st).nox else if c ∈ no then aJj hs c st else .bad
def aX4 (b : Bd) (hs : List (List String × List String × (String -> Bd))) : Bd := fun st => match b st with
 | .exc (.exn c [] []) => aJj hs c st
 | .exc _ => .bad
 | r => r
noncomputable def pC (c m : String) (p : List D -> R D) (dv : List D) (f : Ex) (r : Exs) : Ex := fun st => (f st).nox.bind fun x => (r st).nox.bind fun xs => match x with
 | .ins c' ns _ => aH (c' = c /\ m ∉ ns) (p (x :: (xs ++ dv)))
 | _ => .bad
def e2X (op : Op2) (f g : Ex) : Ex := fun st => (f st).bind fun x => (g st).nox.bind fun y => (op x y).nox
inductive NFl where
 | nx (xss : List (List D)) (st : PSt) | rt (d : D)
abbrev NB := List (List D) -> PSt -> R NFl
def aX5 (j : Nat) (f : Ex) : NB := fun xss st => (f st).bind fun d => .ok (.nx xss (st.set j (some (.v d))))
def aX6 (f : Ex) : NB := fun _ st => (f st).bind fun d => .ok (.rt d)
def nIf (c : Ex) (a b : NB) : NB := fun xss st => (c st).bind fun x => onB x fun q => if q = true then a xss st else b xss st
noncomputable def aX7 (g f : Ex) : NB := fun xss st => (g st).bind fun x => inI x fun j => (f st).bind fun d => (ofO (ixN xss.length j)).bind fun k => match xss[k]? with
 | some ys => aH (ys.length < big) (.ok (.nx (xss.set k (ys ++ [d])) st))
 | none => .bad
def aJk (i : Nat) : Bd := fun st => match st[i]? with
 | some (some (.o .l xs)) => .ok (.rt (.lst xs))
 | _ => .bad
def sS (bd : Bd) (i : Nat) : Bd := fun st => match bd st with
 | .ok (.nx s) => aJk i s
 | _ => .bad
def aJl (p : List D -> R D) (r : Exs) : Ex := fun st => (r st).bind fun ds => (p ds).bind fun d => match d with
 | .bl b => .ok (.bl b)
 | _ => .bad
def aQi (i : Nat) : Bd := fun st => match st[i]? with
 | some (some (.o .l _)) => .ok (.nx (st.set i (some (.o .l []))))
 | _ => .bad
def atom : D -> Bool
 | .non => true
 | .bl _ => true
 | .int _ => true
 | .str _ => true
 | _ => false
def aUc : D -> Bool
 | .lst xs => xs.all atom
 | _ => false
noncomputable section
def aQj : D -> R D
 | .lst xs => aH (xs.length <= big /\ xs.all aUc = true) (.ok (.lst xs))
 | _ => .bad
def unL : D -> List D
 | .lst xs => xs
 | _ => []
open Classical in
def aXt (c : String) (np n : Nat) (b : Bd) (ds : List D) : R D := if h : ∃ r, ∀ x, aA5 c np n b x ds = r then choose h else .bad
end
noncomputable section
end
noncomputable section
end
def sU : List Nat -> List D -> List D
 | c :: z, d :: ds => .tup [.str [c], d] :: sU z ds
 | _, _ => []
def aOu (f g : Ex) : ItE := fun st => (f st).bind fun x => (g st).bind fun y => match x, y with
 | .str z, .lst ds => .ok (sU z ds)
 | _, _ => .bad
noncomputable section
def aBj : D -> R D
 | .int n => aH (-(big : Int) <= n /\ n <= (big : Int)) (.ok (.lst (dR 0 n.toNat)))
 | _ => .bad
def aEj (i : Nat) (g f : Ex) : Bd := fun st => (g st).bind fun k => (f st).bind fun d => aH (aJ9 k = true /\ atom d = true) (.ok (.nx (st.set i (some (.o (.d false [k]) [d])))))
end
noncomputable section
def aCu : Mop
 | .lst xs, [.int k] => (xP xs).bind fun l => (ofO (l.findIdx? fun i => i == k)).bind fun n => aH (xs.length <= big) (.ok (.int (n : Int)))
 | _, _ => .bad
end
def aCv : List D -> List D -> R Bool
 | [], [] => .ok true
 | [], _ :: _ => .ok true
 | _ :: _, [] => .ok false
 | a :: x, b :: y => if eqD a b = true then aCv x y else match a, b with
  | .int i, .int j => .ok (decide (i <= j))
  | .str s, .str t => .ok (!decide (t < s))
  | _, _ => .bad
noncomputable def aQk : Op2
 | .tup x, .tup y => aH (dD x <= 60 /\ cF x = true /\ cF y = true) ((aCv x y).bind fun b => .ok (.bl b))
 | _, _ => .bad
noncomputable def xT : D -> R D
 | .dct false ks ds => aH (ks.length <= big) (.ok (.lst (List.zipWith (fun k d => .tup [k, d]) ks ds)))
 | _ => .bad
def sV (bd : Bd) (f : Ex) : Bd := fun st => match bd st with
 | .ok (.nx s) => (f s).bind fun d => match d with
  | .lst xs => .ok (.rt (.lst xs))
  | _ => .bad
 | _ => .bad
def aJm : D -> Bool
 | .int _ => true
 | .str _ => true
 | _ => false
def aOv (i : Nat) (fr : List Nat) (f : Ex) : Bd := fun st => (f (fr.foldl fz1 st)).bind fun d => match d with
 | .lst ys => if ys.all aJm = true then .ok (.nx (st.set i (some (.v (.lst ys))))) else .bad
 | _ => .bad
def aHk : Op2
 | .int i, .int j => .ok (.bl (decide (i < j)))
 | _, _ => .bad
noncomputable def pD : Op2
 | .int i, .int j => aH ((-18446744073709551616 < i /\ i < 18446744073709551616) \/ (-18446744073709551616 < j /\ j < 18446744073709551616)) (.ok (.int (i * j)))
 | _, _ => .bad
@[simp] theorem aUd (i j : Int) : aHk (.int i) (.int j) = .ok (.bl (decide (i < j))) := rfl
@[simp] theorem aSc (i j : Int) : pD (.int i) (.int j) = aH ((-18446744073709551616 < i /\ i < 18446744073709551616) \/ (-18446744073709551616 < j /\ j < 18446744073709551616)) (.ok (.int (i * j))) := rfl
end Pu
namespace Pu
noncomputable section
def pF : Bd := bQ (sIf (e2 aHk (aB 1) (e1 fJ (aB 0))) (eF (e2 dIx (aB 0) (aB 1))) (dG)) (bQ (sIf (e2 dEq (e1 fJ (aB 0)) (eC (.int 0))) (eF (e2 iW (e2 pD (eC (.int 48271)) (aB 1)) (eC (.int 7)))) (dG)) (eF (e2 iW (e2 dIx (aB 0) (e2 oK (e2 pD (aB 1) (eC (.int 7))) (e1 fJ (aB 0)))) (e2 pD (eC (.int 7919)) (aB 1)))))
def bM : List D -> R D := eN 2 2 pF
def rD : Bd := bQ (eO 3 (e2 oK (e2 pD (e2 iW (e2 iW (e2 oK (aB 0) (eC (.int 2147483647))) (e2 pD (eC (.int 7919)) (aB 1))) (eC (.int 104729))) (eC (.int 48271))) (eC (.int 2147483629)))) (bQ (eO 3 (e2 oK (e2 pD (e2 oK (e2 pD (aB 3) (aB 3)) (eC (.int 2147483647))) (eC (.int 69621))) (eC (.int 2147483587)))) (eF (e2 oK (e2 oK (e2 pD (aB 3) (aB 3)) (eC (.int 2147483629))) (aB 2))))
def bY : List D -> R D := eN 3 4 rD
def kE (st : PSt) : R Fl := (bQ (aBg 3 (e2 oK (aB 0) (aB 1))) (eO 0 (e2 zZ (aB 0) (aB 1)))) st
def mF : Bd := bQ (pA 3 (qG (bJ))) (bQ (sH (tgN 4) (lD (aB 2)) (kE)) (sFz [3] (eF (aB 3))))
def eE : List D -> R D := eN 3 5 mF
def qN (st : PSt) : R D := (bN bY (aC (bN bM (aC (aB 0) (aC (e2 iW (eC (.int 2)) (aB 8)) (bJ)))) (aC (aB 10) (aC (aB 3) (bJ))))) st
def qO (st : PSt) : R D := (cD [10] (tgN 10) (lD (aB 4)) cB (qN)) st
def qP (st : PSt) : R D := (e2 oK (e2 iW (aB 8) (aB 10)) (aB 3)) st
def jN (st : PSt) : R D := (cD [10] (tgN 10) (lD (aB 4)) cB (qP)) st
def mG (st : PSt) : R D := (bN eE (aC (bN bM (aC (aB 0) (aC (e2 iW (eC (.int 2)) (aB 8)) (bJ)))) (aC (aB 3) (aC (aB 4) (bJ))))) st
def eQ (st : PSt) : R Fl := (bQ (eO 9 (bN bY (aC (bN bM (aC (aB 0) (aC (e2 iW (eC (.int 10)) (aB 8)) (bJ)))) (aC (eC (.int 5)) (aC (eC (.int 5)) (bJ)))))) (bQ (sIf (e2 dEq (bN bY (aC (bN bM (aC (aB 0) (aC (e2 iW (eC (.int 10)) (aB 8)) (bJ)))) (aC (eC (.int 6)) (aC (eC (.int 8)) (bJ))))) (eC (.int 0))) (eO 9 (e2 oK (bN bM (aC (aB 0) (aC (e2 iW (eC (.int 10)) (aB 8)) (bJ)))) (e2 aHh (eC (.int 10)) (eC (.int 30))))) (dG)) (aBg 7 (aB 9)))) st
def vI : Bd := bQ (eO 2 (bN bM (aC (aB 0) (aC (eC (.int 0)) (bJ))))) (bQ (eO 3 (e2 iW (eC (.int 1)) (bN bY (aC (aB 2) (aC (eC (.int 1)) (aC (aB 1) (bJ))))))) (bQ (eO 4 (e2 iW (eC (.int 1)) (bN bY (aC (aB 2) (aC (eC (.int 2)) (aC (eC (.int 3)) (bJ))))))) (bQ (eO 5 (cD [8] (tgN 8) (lD (aB 3)) cB (qO))) (bQ (eO 6 (bN bY (aC (aB 2) (aC (eC (.int 3)) (aC (eC (.int 6)) (bJ)))))) (bQ (sIf (e2 dEq (aB 6) (eC (.int 0))) (eO 5 (cD [8] (tgN 8) (lD (aB 3)) cB (jN))) (dG)) (bQ (sIf (e2 dGt (aB 6) (eC (.int 2))) (eO 5 (cD [8] (tgN 8) (lD (aB 3)) cB (mG))) (dG)) (bQ (pA 7 (qG (bJ))) (bQ (sH (tgN 8) (lD (aB 3)) (eQ)) (sFz [7] (eF (qG (aC (aB 5) (aC (aB 7) (bJ))))))))))))))
def gU : List D -> R D := eN 2 11 vI
def jO (st : PSt) : R Fl := (sIf (oZ (e2 dIn (aB 8) (aB 2)) (e2 lC (aB 8) (dM 3))) (bQ (sDPut 3 (aB 8) (e2 iW (e2 dIx (dM 3) (aB 6)) (aB 7))) (aBg 4 (aB 8))) (dG)) st
def qQ (st : PSt) : R Fl := (bQ (eO 6 (e2 dIx (dM 4) (aB 5))) (bQ (sH (tgT [7, 8]) (aOu (eC (.str [97, 98, 99])) (e2 dIx (aB 0) (aB 6))) (jO)) (eO 5 (e2 iW (aB 5) (eC (.int 1)))))) st
def mH (st : PSt) : R D := (e2 aHk (aB 5) (e1 fJ (dM 4))) st
def pG : Bd := bQ (aEj 3 (aB 1) (eC (.str []))) (bQ (pA 4 (qG (aC (aB 1) (bJ)))) (bQ (eO 5 (eC (.int 0))) (bQ (aBh 100000 (mH) (qQ)) (sFz [3] (eF (aB 3))))))
def lQ : List D -> R D := eN 3 9 pG
def fW : Bd := bQ (eO 1 (bN lQ (aC (e1 (iJ "Machine" "steps") (aB 0)) (aC (eC (.int 0)) (aC (e1 aBj (e1 (iJ "Machine" "many") (aB 0))) (bJ)))))) (dG)
def wF : Bd := sV fW (e1 xT (aB 1))
def cM : List D -> R D := eN 1 2 wF
def nZ (st : PSt) : R Fl := (eO 1 (e2 dIx (e2 dIx (aB 0) (aB 1)) (eMt uN (eC (.str [97, 98, 99])) (aC (aB 3) (bJ))))) st
def qR : Bd := bQ (sH (tgN 3) (itE (aB 2)) (nZ)) (eF (aB 1))
def jP : List D -> R D := eN 3 4 qR
def sW : Bd := eF (e2 aQk (aBe (aC (e1 fJ (aB 0)) (aC (aB 0) (bJ)))) (aBe (aC (e1 fJ (aB 1)) (aC (aB 1) (bJ)))))
def iK : List D -> R D := eN 2 2 sW
def lG (st : PSt) : R D := (aB 8) st
def fL (st : PSt) : R D := (oM (eB aJa (aB 8))) st
def lH (st : PSt) : R Fl := (bQ (sIf (eOr (e2 dIn (aB 4) (dM 2)) (eOr (e2 dNe (bN jP (aC (aB 0) (aC (eC (.int 0)) (aC (aB 5) (bJ))))) (aB 4)) (oM (bN iK (aC (aB 3) (aC (aB 5) (bJ))))))) (eF (eC (.bl false))) (dG)) (bQ (sDPut 2 (aB 4) (aB 5)) (eO 3 (aB 5)))) st
def lJ (st : PSt) : R Fl := (bQ (eO 7 (e2 dIx (e2 dIx (aB 0) (aB 4)) (aB 6))) (sIf (eOr (e2 lC (aB 7) (dM 2)) (oM (bN iK (aC (e2 dIx (dM 2) (aB 7)) (aC (e2 iW (aB 5) (e2 dIx (eC (.str [97, 98, 99])) (aB 6))) (bJ)))))) (eF (eC (.bl false))) (dG))) st
def lK (st : PSt) : R Fl := (sH (tgN 6) (lD (e1 fJ (e2 dIx (aB 0) (aB 4)))) (lJ)) st
def sX : Bd := bQ (sIf (eOr (oM (eB aCr (aB 1))) (eOr (e2 dEq (aB 1) (qG (bJ))) (e2 dNe (e2 dIx (aB 1) (eC (.int 0))) (aBe (aC (eC (.int 0)) (aC (eC (.str [])) (bJ))))))) (eF (eC (.bl false))) (dG)) (bQ (sIf (e2 dNe (cD [8] (tgN 8) (itE (aB 1)) (fL) (lG)) (qG (bJ))) (eF (eC (.bl false))) (dG)) (bQ (aFm 2 false) (bQ (eO 3 (eC (.str []))) (bQ (sH (tgT [4, 5]) (itE (aB 1)) (lH)) (bQ (sH (tgT [4, 5]) (itE (aB 1)) (lK)) (eF (eC (.bl true))))))))
def fX : List D -> R D := eN 2 9 sX
def jC : Bd := eF (oZ (eB aCr (aB 0)) (oZ (e2 dGe (e1 fJ (aB 0)) (eC (.int 1))) (e2 dLe (e1 fJ (aB 0)) (aB 1))))
def cY : List D -> R D := eN 2 2 jC
def rE : Bd := eF (oZ (eB isIn (aB 0)) (oM (eB aPw (aB 0))))
def gQ : List D -> R D := eN 1 1 rE
def rF : Bd := eF (oZ (bN gQ (aC (aB 0) (bJ))) (oZ (e2 dGe (aB 0) (eC (.int 0))) (e2 aHk (aB 0) (aB 1))))
def fM : List D -> R D := eN 2 2 rF
def rG (st : PSt) : R D := (bN fM (aC (aB 3) (aC (aB 2) (bJ)))) st
def xU : Bd := eF (oZ (e2 dEq (e1 fJ (aB 0)) (aB 1)) (e1 wC (cD [3] (tgN 3) (itE (aB 0)) cB (rG))))
def sY : List D -> R D := eN 3 4 xU
def mJ (st : PSt) : R D := (bN cY (aC (aB 1) (aC (eC (.int 3)) (bJ)))) st
def mK (st : PSt) : R D := (bN sY (aC (aB 1) (aC (e1 fJ (e2 dIx (aB 0) (eC (.int 0)))) (aC (e1 fJ (aB 0)) (bJ))))) st
def pH : Bd := bQ (sIf (oM (bN cY (aC (aB 0) (aC (eC (.int 8)) (bJ))))) (eF (eC (.bl false))) (dG)) (bQ (sIf (oM (e1 wC (cD [1] (tgN 1) (itE (aB 0)) cB (mJ)))) (eF (eC (.bl false))) (dG)) (eF (e1 wC (cD [1] (tgN 1) (itE (aB 0)) cB (mK)))))
def lR : List D -> R D := eN 1 2 pH
def mL (st : PSt) : R D := (oZ (bN gQ (aC (aB 2) (bJ))) (e2 dGe (aB 2) (eC (.int 0)))) st
def pI : Bd := bQ (sIf (eOr (oM (eB aCr (aB 0))) (e2 dNe (e1 fJ (aB 0)) (aB 1))) (eF (eC (.bl false))) (dG)) (eF (e1 wC (cD [2] (tgN 2) (itE (aB 0)) cB (mL))))
def lU : List D -> R D := eN 2 3 pI
def fO (st : PSt) : R D := (e1 xO (aB 3)) st
def dN : Bd := bQ (sIf (oM (bN lR (aC (aB 1) (bJ)))) (aEf) (dG)) (bQ (sIf (oM (bN lU (aC (aB 2) (aC (e1 fJ (aB 1)) (bJ))))) (aEf) (dG)) (bQ (aA4 0 "Machine" "steps" (cD [3] (tgN 3) (itE (aB 1)) cB (fO))) (bQ (aA4 0 "Machine" "ranks" (e1 xO (aB 2))) (bQ (aA4 0 "Machine" "many" (e1 fJ (aB 1))) (aA4 0 "Machine" "letters" (e1 fJ (e2 dIx (aB 1) (eC (.int 0)))))))))
def cZ : List D -> R D := aBi "Machine" 2 4 dN
def vJ (st : PSt) : R D := (aB 3) st
def aCw (st : PSt) : R D := (eMt aCu (aB 1) (aC (aB 5) (bJ))) st
def vK (st : PSt) : R D := (cD [5] (tgN 5) (itE (e2 dIx (e1 (iJ "Machine" "steps") (aB 0)) (aB 3))) cB (aCw)) st
def vL (st : PSt) : R D := (e2 dIx (e1 (iJ "Machine" "ranks") (aB 0)) (aB 3)) st
def aA8 : Bd := bQ (eO 1 (cD [3, 4] (tgT [3, 4]) (itE (bN cM (aC (aB 0) (bJ)))) cB (vJ))) (bQ (eO 2 (cD [3] (tgN 3) (itE (aB 1)) cB (vK))) (eF (bN cZ (aC (aB 2) (aC (cD [3] (tgN 3) (itE (aB 1)) cB (vL)) (bJ))))))
def pX : List D -> R D := eN 1 6 aA8
def qT (st : PSt) : R D := (e2 dIx (eC (.str [97, 98, 99])) (aB 4)) st
def qU (st : PSt) : R D := (e2 dIx (eC (.str [97, 98, 99])) (bN bY (aC (aB 0) (aC (e2 iW (eC (.int 20)) (aB 3)) (aC (aB 2) (bJ)))))) st
def vM : Bd := bQ (sIf (e2 dEq (e2 oK (aB 0) (eC (.int 2))) (eC (.int 1))) (eF (eMt aA6 (eC (.str [])) (aC (cD [4] (tgN 4) (itE (bN eE (aC (e2 zZ (aB 0) (eC (.int 2))) (aC (aB 2) (aC (aB 1) (bJ)))))) cB (qT)) (bJ)))) (dG)) (eF (eMt aA6 (eC (.str [])) (aC (cD [3] (tgN 3) (lD (aB 1)) cB (qU)) (bJ))))
def gW : List D -> R D := eN 3 5 vM
def uQ : Bd := eF (oZ (eB aPv (aB 0)) (e2 dEq (eMt xM (aB 0) (aC (eSl (eC (.str [97, 98, 99])) (aA3) (qM (aB 1))) (bJ))) (eC (.str []))))
def gY : List D -> R D := eN 2 2 uQ
def nP : Bd := bQ (sIf (eOr (oM (eB aJa (aB 0))) (e2 dNe (e1 fJ (aB 0)) (eC (.int 2)))) (eF (eC (.bl false))) (dG)) (eF (oZ (bN gY (aC (e2 dIx (aB 0) (eC (.int 0))) (aC (aB 1) (bJ)))) (oZ (bN gY (aC (e2 dIx (aB 0) (eC (.int 1))) (aC (aB 1) (bJ)))) (e2 dNe (e2 dIx (aB 0) (eC (.int 1))) (eC (.str []))))))
def fB : List D -> R D := eN 2 2 nP
def jW : Bd := sIf (eNX (oM (bN fM (aC (aB 1) (aC (e1 (iJ "Machine" "many") (aB 0)) (bJ)))))) (xR "NoRoom" (aC (eC (.str [116, 104, 105, 115, 32, 105, 115, 32, 110, 111, 32, 114, 111, 111, 109, 32, 111, 102, 32, 116, 104, 101, 32, 109, 97, 99, 104, 105, 110, 101])) (bJ))) (dG)
def cN : List D -> R D := eN 2 2 jW
def eU (st : PSt) : R Fl := (bQ (eO 1 (e2 dIx (e2 dIx (e1 (iJ "Machine" "steps") (aB 0)) (aB 1)) (eMt aA0 (eC (.str [97, 98, 99])) (aC (aB 4) (bJ))))) (aBg 3 (aB 1))) st
def cT : Bd := bQ (pA 3 (qG (aC (aB 1) (bJ)))) (bQ (sH (tgN 4) (itE (aB 2)) (eU)) (dG))
def oN : Bd := sS cT 3
def bH : List D -> R D := eN 3 5 oN
def jD (st : PSt) : R Fl := (bQ (sDPut 4 (e2 dIx (dM 3) (e1 wB (eC (.int 1)))) (e2 aJ8 (e1 fJ (dM 3)) (eC (.int 1)))) (aMa 3 (eSl (pB "Machine" "rooms_along" (bH) [] (aB 0) (aC (e2 dIx (dM 3) (e1 wB (eC (.int 1)))) (aC (e2 dIx (aB 1) (eC (.int 1))) (bJ)))) (qM (eC (.int 1))) (aA3)))) st
def fY (st : PSt) : R D := (e2 lC (e2 dIx (dM 3) (e1 wB (eC (.int 1)))) (dM 4)) st
def pJ : Bd := bQ (aHi (pC "Machine" "check_room" cN [] (aB 0) (aC (aB 2) (bJ)))) (bQ (sIf (eNX (oM (bN fB (aC (aB 1) (aC (e1 (iJ "Machine" "letters") (aB 0)) (bJ)))))) (xR "NoWord" (aC (eC (.str [116, 104, 105, 115, 32, 105, 115, 32, 110, 111, 32, 101, 110, 100, 108, 101, 115, 115, 32, 119, 111, 114, 100, 32, 111, 102, 32, 116, 104, 101, 32, 109, 97, 99, 104, 105, 110, 101, 39, 115, 32, 108, 101, 116, 116, 101, 114, 115])) (bJ))) (dG)) (bQ (sNX (pA 3 (pB "Machine" "rooms_along" (bH) [] (aB 0) (aC (aB 2) (aC (e2 dIx (aB 1) (eC (.int 0))) (bJ)))))) (bQ (sNX (aFm 4 false)) (bQ (sNX (aBh 100000 (fY) (jD))) (bQ (sNX (eO 5 (e2 dIx (dM 4) (e2 dIx (dM 3) (e1 wB (eC (.int 1))))))) (sNX (eF (aBe (aC (eSl (dM 3) (aA3) (qM (aB 5))) (aC (eSl (dM 3) (qM (aB 5)) (qM (e1 wB (eC (.int 1))))) (bJ)))))))))))
def fP : List D -> R D := eN 3 6 pJ
def jE (st : PSt) : R D := (e2 dIx (e1 (iJ "Machine" "ranks") (aB 0)) (aB 4)) st
def pK : Bd := bQ (eO 3 (e2X dIx (pC "Machine" "walk" fP [] (aB 0) (aC (aB 1) (aC (aB 2) (bJ)))) (eC (.int 1)))) (sNX (eF (e2 dEq (e2 oK (e1 aCs (cD [4] (tgN 4) (itE (aB 3)) cB (jE))) (eC (.int 2))) (eC (.int 0)))))
def cG : List D -> R D := eN 3 5 pK
def aFu (st : PSt) : R D := (e1 xO (aB 12)) st
def aBk (st : PSt) : R D := (aB 13) st
def aMk (st : PSt) : R D := (eMt aCu (aB 4) (aC (aB 15) (bJ))) st
def aFv (st : PSt) : R D := (cD [15] (tgN 15) (itE (e2 dIx (aB 7) (aB 13))) cB (aMk)) st
def aFw (st : PSt) : R D := (e2 dIx (aB 8) (aB 13)) st
def aBl (st : PSt) : R Fl := (bQ (eO 9 (bN bM (aC (aB 0) (aC (aB 6) (bJ))))) (bQ (eO 10 (bN gW (aC (bN bM (aC (aB 0) (aC (e2 iW (aB 6) (eC (.int 1))) (bJ)))) (aC (e2 iW (eC (.int 1)) (bN bY (aC (aB 9) (aC (eC (.int 2)) (aC (eC (.int 9)) (bJ)))))) (aC (aB 1) (bJ)))))) (bQ (eO 11 (aBe (aC (bN gW (aC (aB 9) (aC (bN bY (aC (aB 9) (aC (eC (.int 1)) (aC (eC (.int 10)) (bJ))))) (aC (aB 1) (bJ))))) (aC (aB 10) (bJ))))) (sIf (e2 dNe (pB "Machine" "lets" (pNX cG) [.int 0] (aB 5) (aC (aB 11) (bJ))) (pB "Machine" "lets" (pNX cG) [.int 0] (aB 2) (aC (aB 11) (bJ)))) (eF (eC (.bl false))) (dG))))) st
def aOw : Bd := bQ (aPx (tgT [7, 8]) (bN gU (aC (aB 0) (aC (eC (.int 8)) (bJ))))) (bQ (eO 1 (e1 fJ (e2 dIx (aB 7) (eC (.int 0))))) (bQ (eO 2 (bN cZ (aC (cD [12] (tgN 12) (itE (aB 7)) cB (aFu)) (aC (e1 xO (aB 8)) (bJ))))) (bQ (pA 3 (bN cM (aC (aB 2) (bJ)))) (bQ (sIf (oM (aJl fX (aC (aB 7) (aC (dM 3) (bJ))))) (eF (eC (.bl false))) (dG)) (bQ (aOv 4 [3] (cD [13, 14] (tgT [13, 14]) (itE (aB 3)) cB (aBk))) (bQ (aQi 3) (bQ (eO 5 (bN pX (aC (aB 2) (bJ)))) (bQ (sIf (e2 dNe (e1 (iJ "Machine" "steps") (aB 5)) (cD [13] (tgN 13) (itE (aB 4)) cB (aFv))) (eF (eC (.bl false))) (dG)) (bQ (sIf (eOr (e2 dNe (e1 (iJ "Machine" "ranks") (aB 5)) (cD [13] (tgN 13) (itE (aB 4)) cB (aFw))) (e2 dNe (e1 (iJ "Machine" "many") (aB 5)) (e1 fJ (aB 4)))) (eF (eC (.bl false))) (dG)) (bQ (sH (tgN 6) (aM9 (eC (.int 18)) (e2 aA1 (eC (.int 20)) (e2 aA2 (eC (.int 38)) (e1 fJ (aB 0))))) (aBl)) (eF (oZ (bN fX (aC (aB 7) (aC (bN cM (aC (aB 2) (bJ))) (bJ)))) (oZ (e2 dEq (e1 (iJ "Machine" "steps") (aB 2)) (aB 7)) (e2 dEq (e1 (iJ "Machine" "ranks") (aB 2)) (aB 8)))))))))))))))
def aA9 : List D -> R D := eN 1 16 aOw
end
end Pu
namespace Pu
@[simp] theorem aSd {α β : Type} (x : D) (f : α -> R β) : (R.exc x : R α).bind f = .exc x := rfl
@[simp] theorem aUe {α : Type} : (R.bad : R α).nox = .bad := rfl
@[simp] theorem aUf {α : Type} (x : D) : (R.exc x : R α).nox = .bad := rfl
@[simp] theorem aUg (x : D) (f : PSt -> R Fl) : xN (.exc x) f = .exc x := rfl
@[simp] theorem aX8 (b : Bd) (st : PSt) : sNX b st = (b st).nox := rfl
@[simp] theorem aX9 (f : Ex) (st : PSt) : eNX f st = (f st).nox := rfl
@[simp] theorem aXa (p : List D -> R D) (ds : List D) : pNX p ds = (p ds).nox := rfl
@[simp] theorem aSe (c : String) (r : Exs) (st : PSt) : xR c r st = (r st).nox.bind fun xs => aH (xs.length <= 100) (.exc (.exn c [] [])) := rfl
@[simp] theorem aSf (c m : String) (p : List D -> R D) (dv : List D) (f : Ex) (r : Exs) (st : PSt) : pC c m p dv f r st = (f st).nox.bind fun x => (r st).nox.bind fun xs => match x with | .ins c' ns _ => aH (c' = c /\ m ∉ ns) (p (x :: (xs ++ dv))) | _ => .bad := rfl
@[simp] theorem aW8 (b : Bd) (hs : List (List String × List String × (String -> Bd))) (st : PSt) : aX4 b hs st = (match b st with | .exc (.exn c [] []) => aJj hs c st | .exc _ => .bad | r => r) := rfl
@[simp] theorem aSg (yes no : List String) (b : String -> Bd) (hs : List (List String × List String × (String -> Bd))) (c : String) (st : PSt) : aJj ((yes, no, b) :: hs) c st = if c ∈ yes then (b c st).nox else if c ∈ no then aJj hs c st else .bad := rfl
@[simp] theorem aCx (x : List D) : wC (.lst x) = (bls x).bind fun l => .ok (.bl (l.all id)) := rfl
@[simp] theorem aSh (x : List D) : xO (.lst x) = .ok (.lst x) := rfl
@[simp] theorem aSi (x : List D) : xO (.tup x) = .ok (.lst x) := rfl
theorem aJn {x : List D} {l : List Bool} (h : x = l.map D.bl) (ht : ∀ b ∈ l, b = true) : wC (.lst x) = .ok (.bl true) := by
 subst h
 rw [aCx, aFs]
 have : l.all id = true := List.all_eq_true.mpr fun b hb => by simp [ht b hb]
 simp [this]
end Pu
namespace Pu
@[simp] theorem aSj : sJ [] = .ok [] := rfl
@[simp] theorem aQl (s : List Nat) (r : List D) : sJ (.str s :: r) = (sJ r).bind fun x => .ok (s :: x) := rfl
@[simp] theorem aW9 (j : Nat) (f : Ex) (xss : List (List D)) (st : PSt) : aX5 j f xss st = (f st).bind fun d => .ok (.nx xss (st.set j (some (.v d)))) := rfl
@[simp] theorem aWa (f : Ex) (xss : List (List D)) (st : PSt) : aX6 f xss st = (f st).bind fun d => .ok (.rt d) := rfl
@[simp] theorem aXb (c : Ex) (a b : NB) (xss : List (List D)) (st : PSt) : nIf c a b xss st = (c st).bind fun x => onB x fun q => if q = true then a xss st else b xss st := rfl
@[simp] theorem aWb (g f : Ex) (xss : List (List D)) (st : PSt) : aX7 g f xss st = (g st).bind fun x => inI x fun j => (f st).bind fun d => (ofO (ixN xss.length j)).bind fun k => match xss[k]? with
 | some ys => aH (ys.length < big) (.ok (.nx (xss.set k (ys ++ [d])) st))
 | none => .bad := rfl
end Pu
namespace Pu
def Ltr (m : Int) (x : List Nat) : Prop := ∀ c ∈ x, 97 <= c /\ (c : Int) < 97 + m
theorem aJo {m i : Int} (hm : 1 <= m) (hm3 : m <= 3) (h0 : 0 <= i) (h : i < m) : ∃ c, atI [97, 98, 99] i = some c /\ 97 <= c /\ ((c : Nat) : Int) < 97 + m := by
 have h3 : i = 0 \/ i = 1 \/ i = 2 := by omega
 rcases h3 with rfl | rfl | rfl
 ·exact ⟨97, rfl, by omega, by omega⟩
 ·exact ⟨98, rfl, by omega, by omega⟩
 ·exact ⟨99, rfl, by omega, by omega⟩
end Pu
namespace Pu
theorem bI {a b : Bd} {st st' : PSt} {r : R Fl} (h : a st = .ok (.nx st')) (h2 : b st' = r) : bQ a b st = r := by
 rw [aFq, h]
 exact h2
theorem cU {a b : Bd} {st : PSt} {r : R Fl} (h : a st = .ok (.nx st)) (h2 : b st = r) : bQ a b st = r := bI h h2
theorem aQm {a b : Bd} {st : PSt} {d : D} (h : a st = .ok (.rt d)) : bQ a b st = .ok (.rt d) := by
 rw [aFq, h]
 rfl
theorem gF {np n : Nat} {b : Bd} {ds : List D} {d : D} (h : ds.length = np) (hb : b (ds.map (fun d => some (.v d)) ++ List.replicate (n - np) none) = .ok (.rt d)) : eN np n b ds = .ok d := by
 rw [aFr h, hb]
 rfl
theorem aQn {np n : Nat} {b : Bd} {ds : List D} {st : PSt} (h : ds.length = np) (hb : b (ds.map (fun d => some (.v d)) ++ List.replicate (n - np) none) = .ok (.nx st)) : eN np n b ds = .ok .non := by
 rw [aFr h, hb]
 rfl
end Pu
namespace Pu
theorem vN (n : Nat) : dR 0 n = (List.range n).map fun (k : Nat) => D.int (k : Int) := by
 unfold dR
 refine List.map_congr_left fun k _ => ?_
 rw [Int.zero_add]
theorem kZ {tg : Tg} {c f : Ex} {st : PSt} (g : D -> D) : ∀ (ds : List D), (∀ d ∈ ds, ∃ s1, tg d st = .ok s1 /\ c s1 = .ok (.bl true) /\ f s1 = .ok (g d)) -> lF tg c f st ds = .ok (ds.map g)
 | [], _ => rfl
 | d :: ds, h => by
  obtain ⟨s1, e1, e2, e3⟩ := h d List.mem_cons_self
  rw [rC, e1]
  simp only [aO, e2, mC, if_true, e3, kZ g ds fun d hd => h d (List.mem_cons_of_mem _ hd), List.map_cons]
end Pu
namespace Pu
theorem dF {i : Nat} {f : Ex} {st : PSt} {d : D} (h : f st = .ok d) : eO i f st = .ok (.nx (st.set i (some (.v d)))) := by rw [aMh, h, aO]
theorem aBm {i : Nat} {f : Ex} {st : PSt} {xs : List D} (h : f st = .ok (.lst xs)) : pA i f st = .ok (.nx (st.set i (some (.o .l xs)))) := by rw [aJd, h, aO]
theorem bZ {p : List D -> R D} {r : Exs} {st : PSt} {ds : List D} {x : R D} (h : r st = .ok ds) (hp : p ds = x) : bN p r st = x := by rw [aJc, h, aO, hp]
theorem bK {op : Op2} {f g : Ex} {st : PSt} {x y : D} {z : R D} (hf : f st = .ok x) (hg : g st = .ok y) (h : op x y = z) : e2 op f g st = z := by rw [aTg, hf, aO, hg, aO, h]
theorem aJp {c : Ex} {a b : Bd} {st : PSt} {r : R Fl} (h : c st = .ok (.bl true)) (ha : a st = r) : sIf c a b st = r := by rw [aEg, h, aO, mC, if_pos rfl, ha]
theorem qH {c : Ex} {a b : Bd} {st : PSt} {r : R Fl} (h : c st = .ok (.bl false)) (hb : b st = r) : sIf c a b st = r := by rw [aEg, h, aO, mC, if_neg Bool.false_ne_true, hb]
theorem aEk {f g : Ex} {st : PSt} {p q : Bool} (hf : f st = .ok (.bl p)) (hg : p = true -> g st = .ok (.bl q)) : oZ f g st = .ok (.bl (p && q)) := by
 rw [aFo, hf, aO, mC]
 cases p with
 | true => rw [if_pos rfl, hg rfl]; rfl
 | false => rfl
theorem aAa {f g : Ex} {st : PSt} {p q : Bool} (hf : f st = .ok (.bl p)) (hg : p = false -> g st = .ok (.bl q)) : eOr f g st = .ok (.bl (p || q)) := by
 rw [aPy, hf, aO, mC]
 cases p with
 | true => rfl
 | false => rw [if_neg Bool.false_ne_true, hg rfl]; rfl
theorem rH {f : Ex} {st : PSt} {p : Bool} (hf : f st = .ok (.bl p)) : oM f st = .ok (.bl (!p)) := by rw [aFp, hf, aO, mC]
theorem mO {f : Ex} {st : PSt} {d : D} (h : f st = .ok d) : eF f st = .ok (.rt d) := by rw [wM, h, aO]
theorem rJ {tg : Tg} {it : ItE} {L : Bd} {st : PSt} {xs : List D} {r : R Fl} (h : it st = .ok xs) (hr : forR tg L xs st = r) : sH tg it L st = r := by rw [aMi, h, aO, hr]
theorem bT {f : Ex} {r : Exs} {st : PSt} {d : D} {ds : List D} (h : f st = .ok d) (hr : r st = .ok ds) : aC f r st = .ok (d :: ds) := by rw [aJb, h, aO, hr, aO]
theorem aEm {r : Exs} {st : PSt} {ds : List D} (h : r st = .ok ds) (hl : ds.length <= 1000 := by exact of_decide_eq_true rfl) : qG r st = .ok (.lst ds) := by rw [aMc, h, aO, aG (aM (Nat.le_trans hl (by decide)))]
theorem aBn {i j : Int} (h : 0 < j) : oK (.int i) (.int j) = .ok (.int (i % j)) := aG h
theorem aMl {i j : Int} (h : 0 < j /\ j < 1073741824) : zZ (.int i) (.int j) = .ok (.int (i / j)) := aG h
theorem aBo (i j : Int) : dEq (.int i) (.int j) = .ok (.bl (decide (i = j))) := by
 have : (i == j) = decide (i = j) := by by_cases h : i = j <;> simp [h]
 rw [<- this]
 exact aG ⟨Nat.zero_le 64, rfl, rfl⟩
theorem aJq (i j : Int) : dNe (.int i) (.int j) = .ok (.bl (!decide (i = j))) := by
 have : (i == j) = decide (i = j) := by by_cases h : i = j <;> simp [h]
 rw [<- this]
 exact aG ⟨Nat.zero_le 64, rfl, rfl⟩
theorem aJr {i : Nat} {f : Ex} {st : PSt} {d : D} {xs : List D} (h : f st = .ok d) (hs : st[i]? = some (some (.o .l xs))) (hl : xs.length < 1000000) : aBg i f st = .ok (.nx (st.set i (some (.o .l (xs ++ [d]))))) := by
 rw [aMf, h, aO, hs]
 exact aG (aQ (Nat.lt_trans hl (by decide)))
theorem aOx {f : Ex} {st : PSt} {n : Nat} (h : f st = .ok (.int n)) (hn : n <= 1000000) : lD f st = .ok ((List.range n).map fun (k : Nat) => D.int (k : Int)) := by
 rw [aMd, h, aO, <- vN]
 exact aG ⟨aK (by omega), aL (by omega)⟩
theorem iM {E C : Ex} {is : List Nat} {tg : Tg} {it : ItE} {st : PSt} {ys xs : List D} (h : it st = .ok xs) (hl : xs.length <= 1000000) (hc : lF tg C E (clr is st) xs = .ok ys) : cD is tg it C E st = .ok (.lst ys) := by
 rw [aJg, h, aO, aG (aM (Nat.le_trans hl (by decide))), hc, aO]
theorem aJs {c : Ex} {b : Bd} {st st' : PSt} {n : Nat} {r : R Fl} (hc : c st = .ok (.bl true)) (hb : b st = .ok (.nx st')) (hr : gP c b n st' = r) : gP c b (n + 1) st = r := by
 rw [lO, hc, aO, mC, if_pos rfl, hb]
 exact hr
theorem aHl {c : Ex} {b : Bd} {st : PSt} {n : Nat} (hc : c st = .ok (.bl false)) : gP c b (n + 1) st = .ok (.nx st) := by rw [lO, hc, aO, mC, if_neg Bool.false_ne_true]
theorem aEn {tg : Tg} {L : Bd} {d : D} {ds : List D} {st s1 s2 : PSt} {r : R Fl} (ht : tg d st = .ok s1) (hL : L s1 = .ok (.nx s2)) (hr : forR tg L ds s2 = r) : forR tg L (d :: ds) st = r := by
 rw [nA, ht, aO, hL]
 exact hr
theorem iZ {xs : List D} {i : Int} {d : D} (h : atI xs i = some d) : dIx (.lst xs) (.int i) = .ok d := by
 show ofO (atI xs i) = _
 rw [h]
 rfl
theorem aXc {p q : Nat} (h : p < q) : decide ((p : Int) < (q : Int)) = true := decide_eq_true (by omega)
theorem aXd {p q : Nat} (h : ¬ p < q) : decide ((p : Int) < (q : Int)) = false := decide_eq_false (by omega)
theorem vO {r : R D} {p q : Bool} (h : r = .ok (.bl p)) (e : p = q) : r = .ok (.bl q) := by rw [h, e]
theorem nC {f : Ex} {st : PSt} {xs : List D} (h : f st = .ok (.lst xs)) : itE f st = .ok xs := by rw [aQ0, h, aO]
theorem aQo {i : Nat} {f : Ex} {st : PSt} {xs ys : List D} (h : f st = .ok (.lst ys)) (hs : st[i]? = some (some (.o .l xs))) (hl : xs.length + ys.length <= big) : aMa i f st = .ok (.nx (st.set i (some (.o .l (xs ++ ys))))) := by
 rw [aMg, h, aO]
 dsimp only
 rw [hs]
 exact aG hl
end Pu
namespace Pu
def good (m : Int) (x : List Nat) : Bool := x.all fun c => decide (97 <= c /\ (c : Int) < 97 + m)
theorem xV {m : Int} {x : List Nat} : good m x = true ↔ Ltr m x := by
 unfold good Ltr
 simp
theorem aFx {m : Int} (hm : 1 <= m) (hm3 : m <= 3) {c : Nat} : c ∈ cut [97, 98, 99] none (some m) ↔ 97 <= c /\ (c : Int) < 97 + m := by
 have h3 : m = 1 \/ m = 2 \/ m = 3 := by omega
 rcases h3 with rfl | rfl | rfl
 ·show c ∈ [97] ↔ _
  simp; omega
 ·show c ∈ [97, 98] ↔ _
  simp; omega
 ·show c ∈ [97, 98, 99] ↔ _
  simp; omega
theorem qW {α : Type} (p : α -> Bool) : ∀ x : List α, x.dropWhile p = [] ↔ ∀ c ∈ x, p c = true
 | [] => by simp
 | a :: x => by
  cases h : p a with
  | true => rw [List.dropWhile_cons_of_pos h, qW p x]; simp [h]
  | false => rw [List.dropWhile_cons_of_neg (by simp [h])]; simp [h]
theorem takeWhile_all {α : Type} (p : α -> Bool) : ∀ (x : List α) (c : α), c ∈ x.takeWhile p -> p c = true
 | [], c, h => by simp at h
 | a :: x, c, h => by
  cases ha : p a with
  | true =>
   rw [List.takeWhile_cons_of_pos ha] at h
   rcases List.mem_cons.mp h with rfl | h
   ·exact ha
   ·exact takeWhile_all p x c h
  | false => rw [List.takeWhile_cons_of_neg (by simp [ha])] at h; simp at h
theorem strip_nil (x y : List Nat) : lZ x y = [] ↔ ∀ c ∈ x, c ∈ y := by
 unfold lZ
 rw [List.reverse_eq_nil_iff, qW]
 constructor
 ·intro h
  have h2 : ∀ c ∈ x.dropWhile (fun c => y.contains c), c ∈ y := fun c hc => by simpa using h c (by simpa using hc)
  have h3 : ∀ c ∈ x.takeWhile (fun c => y.contains c), c ∈ y := fun c hc => by
   simpa using takeWhile_all (fun c => y.contains c) x c hc
  intro c hc
  rw [<- List.takeWhile_append_dropWhile (p := fun c => y.contains c) (l := x)] at hc
  exact (List.mem_append.mp hc).elim (h3 c) (h2 c)
 ·intro h c hc
  rw [List.mem_reverse] at hc
  have : c ∈ x := List.IsSuffix.subset (List.dropWhile_suffix _) hc
  simpa using h c this
theorem xW (x : List Nat) (m : Int) (hm : 1 <= m) (hm3 : m <= 3) (h : x.length <= 1000000) : gY [.str x, .int m] = .ok (.bl (good m x)) := by
 unfold gY uQ
 have e : (lZ x (cut [97, 98, 99] none (some m)) == []) = good m x := by
  rw [Bool.eq_iff_iff, beq_iff_eq, strip_nil, xV]
  exact ⟨fun z c hc => (aFx hm hm3).mp (z c hc), fun z c hc => (aFx hm hm3).mpr (z c hc)⟩
 simp [aPv, show x.length <= big from aM (by omega), e]
theorem zK (x y : D) (m : Int) (p q : Bool) (hp : gY [x, .int m] = .ok (.bl p)) (hq : gY [y, .int m] = .ok (.bl q)) (hy : plain y = true) (hd : dep y <= 64) : fB [.tup [x, y], .int m] = .ok (.bl (p && (q && !eqD y (.str [])))) := by
 unfold fB nP
 have g1 : atI [x, y] 0 = some x := rfl
 have g2 : atI [x, y] 1 = some y := rfl
 cases p <;> cases q <;> simp [aJa, g1, g2, hp, hq, hy, hd]
end Pu
namespace Pu
def nats (l : List Nat) : List D := l.map fun (x : Nat) => D.int (x : Int)
structure Mch (S : List (List Nat)) (rk : List Nat) (c : Nat) : Prop where
 one : 1 <= S.length
 most : S.length <= 8
 c1 : 1 <= c
 c3 : c <= 3
 row : ∀ r ∈ S, r.length = c /\ ∀ x ∈ r, x < S.length
 rks : rk.length = S.length
def stD (S : List (List Nat)) : List D := S.map fun r => D.lst (nats r)
theorem xX {tg : Tg} {c f : Ex} {st : PSt} {P : D -> D -> Prop} : ∀ (ds : List D), (∀ d ∈ ds, ∃ s1 y, tg d st = .ok s1 /\ c s1 = .ok (.bl true) /\ f s1 = .ok y /\ P d y) -> ∃ ys, lF tg c f st ds = .ok ys /\ ys.length = ds.length /\ ∀ y ∈ ys, ∃ d ∈ ds, P d y
 | [], _ => ⟨[], rfl, rfl, fun _ h => nomatch h⟩
 | d :: ds, h => by
  obtain ⟨s1, y, e1, e2, e3, e4⟩ := h d List.mem_cons_self
  obtain ⟨ys, e5, e6, e7⟩ := xX ds fun d hd => h d (List.mem_cons_of_mem _ hd)
  refine ⟨y :: ys, ?_, by simp [e6], fun z hz => ?_⟩
  ·rw [rC, e1]
   simp [e2, e3, e5]
  ·rcases List.mem_cons.mp hz with rfl | hz
   ·exact ⟨d, List.mem_cons_self, e4⟩
   ·obtain ⟨d', h1, h2⟩ := e7 z hz
    exact ⟨d', List.mem_cons_of_mem _ h1, h2⟩
theorem xY {lo : Int} {n : Nat} {d : D} (h : d ∈ dR lo n) : ∃ k : Nat, k < n /\ d = .int (lo + k) := by
 unfold dR at h
 obtain ⟨k, h1, h2⟩ := List.mem_map.mp h
 exact ⟨k, List.mem_range.mp h1, h2.symm⟩
theorem aFy : ∀ (ys : List D) (c n : Nat), (∀ y ∈ ys, ∃ r : List Nat, y = .lst (nats r) /\ r.length = c /\ ∀ x ∈ r, x < n) -> ∃ S : List (List Nat), ys = stD S /\ ∀ r ∈ S, r.length = c /\ ∀ x ∈ r, x < n
 | [], _, _, _ => ⟨[], rfl, fun _ h => nomatch h⟩
 | y :: ys, c, n, h => by
  obtain ⟨r, rfl, h1⟩ := h y List.mem_cons_self
  obtain ⟨S, rfl, h2⟩ := aFy ys c n fun y hy => h y (List.mem_cons_of_mem _ hy)
  refine ⟨r :: S, rfl, fun r' hr => ?_⟩
  rcases List.mem_cons.mp hr with rfl | hr
  ·exact h1
  ·exact h2 r' hr
theorem aFz : ∀ (ys : List D) (n : Int), (∀ y ∈ ys, ∃ i : Int, y = .int i /\ 0 <= i /\ i < n) -> ∃ r : List Nat, ys = nats r /\ ∀ x ∈ r, (x : Int) < n
 | [], _, _ => ⟨[], rfl, fun _ h => nomatch h⟩
 | y :: ys, n, h => by
  obtain ⟨i, rfl, h0, h1⟩ := h y List.mem_cons_self
  obtain ⟨r, rfl, h2⟩ := aFz ys n fun y hy => h y (List.mem_cons_of_mem _ hy)
  refine ⟨i.toNat :: r, ?_, fun x hx => ?_⟩
  ·unfold nats; rw [List.map_cons, Int.toNat_of_nonneg h0]
  ·rcases List.mem_cons.mp hx with rfl | hx
   ·rw [Int.toNat_of_nonneg h0]; exact h1
   ·exact h2 x hx
theorem xZ {E : Ex} {st : PSt} {j v n : Nat} {P : D -> Prop} (hv : st[v]? = some (some (.v (.int n)))) (hn : n <= 100000) (hE : ∀ k : Nat, k < n -> ∃ y, E ((st.set j none).set j (some (.v (.int k)))) = .ok y /\ P y) :
  ∃ ys, cD [j] (tgN j) (lD (aB v)) cB E st = .ok (.lst ys) /\ ys.length = n /\ ∀ y ∈ ys, P y := by
 obtain ⟨ys, e1, e2, e3⟩ := xX (tg := tgN j) (c := cB) (f := E) (st := st.set j none) (P := fun _ y => P y) (dR 0 n) (fun d hd => by
  obtain ⟨k, hk, rfl⟩ := xY hd
  obtain ⟨y, h1, h2⟩ := hE k hk
  rw [Int.zero_add]
  exact ⟨_, y, rfl, rfl, h1, h2⟩)
 rw [jM] at e2
 refine ⟨ys, ?_, e2, fun y hy => let ⟨_, _, h⟩ := e3 y hy; h⟩
 simp [hv, show (n : Int) <= (big : Int) from aL (by omega), jM, show n <= big from aM (by omega), e1]
theorem aHm {E : Ex} {st : PSt} {j v n : Nat} {m : Int} (hv : st[v]? = some (some (.v (.int n)))) (hn : n <= 100000) (hE : ∀ k : Nat, k < n -> ∃ i, E ((st.set j none).set j (some (.v (.int k)))) = .ok (.int i) /\ 0 <= i /\ i < m) :
  ∃ r, cD [j] (tgN j) (lD (aB v)) cB E st = .ok (.lst (nats r)) /\ r.length = n /\ ∀ x ∈ r, (x : Int) < m := by
 obtain ⟨ys, e1, e2, e3⟩ := xZ (P := fun y => ∃ i : Int, y = .int i /\ 0 <= i /\ i < m) hv hn fun k hk => let ⟨i, h1, h2⟩ := hE k hk; ⟨_, h1, i, rfl, h2⟩
 obtain ⟨r, rfl, h⟩ := aFz ys m e3
 exact ⟨r, e1, by rw [<- e2]; unfold nats; simp, h⟩
theorem aAb {E : Ex} {st : PSt} {j v n c : Nat} (hv : st[v]? = some (some (.v (.int n)))) (hn : n <= 100000) (hE : ∀ k : Nat, k < n -> ∃ r, E ((st.set j none).set j (some (.v (.int k)))) = .ok (.lst (nats r)) /\ r.length = c /\ ∀ x ∈ r, x < n) :
  ∃ S, cD [j] (tgN j) (lD (aB v)) cB E st = .ok (.lst (stD S)) /\ S.length = n /\ ∀ r ∈ S, r.length = c /\ ∀ x ∈ r, x < n := by
 obtain ⟨ys, e1, e2, e3⟩ := xZ (P := fun y => ∃ r : List Nat, y = .lst (nats r) /\ r.length = c /\ ∀ x ∈ r, x < n) hv hn fun k hk => let ⟨r, h1, h2⟩ := hE k hk; ⟨_, h1, r, rfl, h2⟩
 obtain ⟨S, rfl, h⟩ := aFy ys c n e3
 exact ⟨S, e1, by rw [<- e2]; unfold stD; simp, h⟩
end Pu
namespace Pu
def cv (ns : List Int) (k : Nat) : Int := if k < ns.length then ns.getD k 0 else if ns.length = 0 then 48271 * (k : Int) + 7 else ns.getD (k * 7 % ns.length) 0 + 7919 * (k : Int)
theorem aJt {ns : List Int} {k : Nat} (h : k < ns.length) : atI (ns.map D.int) (k : Int) = some (.int (ns.getD k 0)) := by
 rw [atI_nat (by simpa using h)]
 simp [List.getD_eq_getElem?_getD, List.getElem?_eq_getElem h]
theorem sZ (ns : List Int) (k : Nat) : bM [.lst (ns.map D.int), .int k] = .ok (.int (cv ns k)) := by
 unfold bM pF cv
 by_cases h : k < ns.length
 ·simp [h, aJt h]
 ·by_cases h0 : ns.length = 0
  ·have hz : ¬ ((k : Int) < 0) := by omega
   simp [h, h0, hz]
  ·have hm : k * 7 % ns.length < ns.length := Nat.mod_lt _ (Nat.pos_of_ne_zero h0)
   have e := aJt hm
   have ec : ((k : Int) * 7 % (ns.length : Int)) = ((k * 7 % ns.length : Nat) : Int) := by push_cast; rfl
   rw [<- ec] at e
   simp only [List.getD_eq_getElem?_getD] at e
   simp [h, h0, Nat.pos_of_ne_zero h0, e]
theorem aAc (ns : List Int) (i : Int) (h : 0 <= i) : bM [.lst (ns.map D.int), .int i] = .ok (.int (cv ns i.toNat)) := by
 have := sZ ns i.toNat
 rwa [Int.toNat_of_nonneg h] at this
def wG (c k m : Int) : Int :=
 let a := (c % 2147483647 + 7919 * k + 104729) * 48271 % 2147483629
 let b := a * a % 2147483647 * 69621 % 2147483587
 b * b % 2147483629 % m
theorem uR (c k : Int) {m : Int} (h : 0 < m) : 0 <= wG c k m /\ wG c k m < m := ⟨Int.emod_nonneg _ (by omega), Int.emod_lt_of_pos _ h⟩
theorem lV (c k m : Int) (h : 0 < m) : bY [.int c, .int k, .int m] = .ok (.int (wG c k m)) := by
 unfold bY rD wG
 have a0 : ∀ x : Int, 0 <= x % 2147483629 := fun x => Int.emod_nonneg _ (by decide)
 have a1 : ∀ x : Int, x % 2147483629 < 2147483629 := fun x => Int.emod_lt_of_pos _ (by decide)
 have b0 : ∀ x : Int, 0 <= x % 2147483587 := fun x => Int.emod_nonneg _ (by decide)
 have b1 : ∀ x : Int, x % 2147483587 < 2147483587 := fun x => Int.emod_lt_of_pos _ (by decide)
 generalize hA : (c % 2147483647 + 7919 * k + 104729) * 48271 % 2147483629 = a
 have h1 := a0 ((c % 2147483647 + 7919 * k + 104729) * 48271)
 have h2 := a1 ((c % 2147483647 + 7919 * k + 104729) * 48271)
 rw [hA] at h1 h2
 generalize hB : a * a % 2147483647 * 69621 % 2147483587 = b
 have h3 := b0 (a * a % 2147483647 * 69621)
 have h4 := b1 (a * a % 2147483647 * 69621)
 rw [hB] at h3 h4
 have g1 : -18446744073709551616 < a := by omega
 have g2 : a < 18446744073709551616 := by omega
 have g3 : -18446744073709551616 < b := by omega
 have g4 : b < 18446744073709551616 := by omega
 simp [hA, g1, g2, hB, g3, g4, h]
theorem vP (m n : Int) (hm : 1 <= m) (hm2 : m < 1073741824) : ∀ (ks : List D) (c : Int) (row : List Nat) (k : Option Sl), row.length + ks.length <= 1000000 -> (∀ x ∈ row, (x : Int) < m) ->
  ∃ c' row' k', forR (tgN 4) kE ks [some (.v (.int c)), some (.v (.int m)), some (.v (.int n)), some (.o .l (nats row)), k] = .ok (.nx [some (.v (.int c')), some (.v (.int m)), some (.v (.int n)), some (.o .l (nats row')), k']) /\ row'.length = row.length + ks.length /\ ∀ x ∈ row', (x : Int) < m
 | [], c, row, k, _, h => ⟨c, row, k, rfl, rfl, h⟩
 | d :: ks, c, row, k, hl, h => by
  rw [List.length_cons] at hl
  have m0 : 0 < m := by omega
  have e0 : 0 <= c % m := Int.emod_nonneg _ (by omega)
  have e1 : c % m < m := Int.emod_lt_of_pos _ m0
  have ec : ((c % m).toNat : Int) = c % m := Int.toNat_of_nonneg e0
  obtain ⟨c', row', k', e, hr, hx⟩ := vP m n hm hm2 ks (c / m) (row ++ [(c % m).toNat]) (some (.v d)) (by rw [List.length_append, List.length_singleton]; omega) (fun x hx => by
   rcases List.mem_append.mp hx with hx | hx
   ·exact h x hx
   ·rw [List.mem_singleton.mp hx, ec]; exact e1)
  refine ⟨c', row', k', ?_, by rw [hr, List.length_append, List.length_singleton, List.length_cons]; omega, hx⟩
  rw [<- e, nA]
  have e2 : nats (row ++ [(c % m).toNat]) = nats row ++ [D.int (c % m)] := by unfold nats; rw [List.map_append, List.map_singleton, ec]
  have e3 : (nats row).length = row.length := by unfold nats; simp
  simp [kE, m0, hm2, e2, e3, show row.length < big from aQ (by omega)]
theorem aAd (c m n : Int) (hm : 1 <= m) (hm2 : m < 1073741824) (h0 : 0 <= n) (h1 : n <= 100000) : ∃ row, eE [.int c, .int m, .int n] = .ok (.lst (nats row)) /\ row.length = n.toNat /\ ∀ x ∈ row, (x : Int) < m := by
 obtain ⟨c', row', k', e, hr, hx⟩ := vP m n hm hm2 (dR 0 n.toNat) c [] none (by rw [jM, List.length_nil]; omega) (fun _ h => nomatch h)
 refine ⟨row', ?_, by rw [hr, jM]; simp, hx⟩
 unfold eE mF
 have en : nats [] = [] := rfl
 rw [en] at e
 simp [show -(big : Int) <= n from aK (by omega), show n <= (big : Int) from aL (by omega), e]
end Pu
namespace Pu
def kst (ns : List Int) (n c : Nat) (f : Int) (x5 x6 x7 x8 x9 : Option Sl) : PSt := [some (.v (.lst (ns.map D.int))), some (.v (.int 8)), some (.v (.int f)), some (.v (.int n)), some (.v (.int c)), x5, x6, x7, x8, x9, none]
theorem aHn (rk : List Nat) {v : Int} (h : 0 <= v) : nats (rk ++ [v.toNat]) = nats rk ++ [D.int v] := by unfold nats; rw [List.map_append, List.map_singleton, Int.toNat_of_nonneg h]
theorem aEo (ns : List Int) (n c : Nat) (f : Int) (x5 x6 x9 : Option Sl) (rk : List Nat) (x : Nat) (hl : rk.length <= 1000) : ∃ v r, eQ (kst ns n c f x5 x6 (some (.o .l (nats rk))) (some (.v (.int x))) x9) = .ok (.nx (kst ns n c f x5 x6 (some (.o .l (nats (rk ++ [v])))) (some (.v (.int x))) r)) := by
 have hc := aAc ns (10 + x) (by omega)
 generalize cv ns (10 + (x : Int)).toNat = u at hc
 obtain ⟨m0, _⟩ := uR u 5 (m := 5) (by decide)
 have hm1 := lV u 5 5 (by decide)
 have hm2 := lV u 6 8 (by decide)
 generalize wG u 5 5 = a at hm1 m0
 have cl : ∀ y9, bN bM (aC (aB 0) (aC (e2 iW (eC (.int 10)) (aB 8)) (bJ))) (kst ns n c f x5 x6 (some (.o .l (nats rk))) (some (.v (.int x))) y9) = .ok (.int u) := fun y9 => bZ (bT rfl (bT (bK rfl rfl rfl) rfl)) hc
 have t : e2 dEq (bN bY (aC (bN bM (aC (aB 0) (aC (e2 iW (eC (.int 10)) (aB 8)) (bJ)))) (aC (eC (.int 6)) (aC (eC (.int 8)) (bJ))))) (eC (.int 0)) (kst ns n c f x5 x6 (some (.o .l (nats rk))) (some (.v (.int x))) (some (.v (.int a)))) = .ok (.bl (decide (wG u 6 8 = 0))) := bK (bZ (bT (cl _) rfl) hm2) rfl (aBo _ _)
 have go : ∀ {r : R Fl}, bQ (sIf (e2 dEq (bN bY (aC (bN bM (aC (aB 0) (aC (e2 iW (eC (.int 10)) (aB 8)) (bJ)))) (aC (eC (.int 6)) (aC (eC (.int 8)) (bJ))))) (eC (.int 0))) (eO 9 (e2 oK (bN bM (aC (aB 0) (aC (e2 iW (eC (.int 10)) (aB 8)) (bJ)))) (e2 aHh (eC (.int 10)) (eC (.int 30))))) (dG)) (aBg 7 (aB 9)) (kst ns n c f x5 x6 (some (.o .l (nats rk))) (some (.v (.int x))) (some (.v (.int a)))) = r -> eQ (kst ns n c f x5 x6 (some (.o .l (nats rk))) (some (.v (.int x))) x9) = r := fun {r} h => bI (st' := kst ns n c f x5 x6 (some (.o .l (nats rk))) (some (.v (.int x))) (some (.v (.int a)))) (dF (bZ (bT (cl _) rfl) hm1)) h
 have app : ∀ v : Int, 0 <= v -> aBg 7 (aB 9) (kst ns n c f x5 x6 (some (.o .l (nats rk))) (some (.v (.int x))) (some (.v (.int v)))) = .ok (.nx (kst ns n c f x5 x6 (some (.o .l (nats (rk ++ [v.toNat])))) (some (.v (.int x))) (some (.v (.int v))))) := fun v hv => by
  rw [aJr (xs := nats rk) (d := .int v) rfl rfl (by unfold nats; rw [List.length_map]; omega), aHn rk hv]
  rfl
 by_cases h6 : wG u 6 8 = 0
 ·rw [decide_eq_true h6] at t
  have p : e2 aHh (eC (.int 10)) (eC (.int 30)) (kst ns n c f x5 x6 (some (.o .l (nats rk))) (some (.v (.int x))) (some (.v (.int a)))) = .ok (.int 1000000000000000000000000000000) := by simp
  exact ⟨_, _, go (bI (st' := kst ns n c f x5 x6 (some (.o .l (nats rk))) (some (.v (.int x))) (some (.v (.int (u % 1000000000000000000000000000000))))) (aJp t (dF (bK (cl _) p (aBn (by decide))))) (app _ (Int.emod_nonneg _ (by decide))))⟩
 ·rw [decide_eq_false h6] at t
  exact ⟨_, _, go (cU (qH t rfl) (app a m0))⟩
theorem yC (ns : List Int) (n c : Nat) (f : Int) (x5 x6 : Option Sl) : ∀ (ks rk : List Nat) (x8 x9 : Option Sl), rk.length + ks.length <= 1000 ->
  ∃ rk' k' r', forR (tgN 8) eQ (nats ks) (kst ns n c f x5 x6 (some (.o .l (nats rk))) x8 x9) = .ok (.nx (kst ns n c f x5 x6 (some (.o .l (nats rk'))) k' r')) /\ rk'.length = rk.length + ks.length
 | [], rk, x8, x9, _ => ⟨rk, x8, x9, rfl, rfl⟩
 | x :: ks, rk, x8, x9, hl => by
  rw [List.length_cons] at hl
  obtain ⟨v, r, e⟩ := aEo ns n c f x5 x6 x9 rk x (by omega)
  have hv : (rk ++ [v]).length = rk.length + 1 := List.length_append
  obtain ⟨rk', k', r', e', h⟩ := yC ns n c f x5 x6 ks (rk ++ [v]) (some (.v (.int x))) r (by omega)
  exact ⟨rk', k', r', aEn rfl e e', by rw [h, hv, List.length_cons]; omega⟩
theorem aMm (ns : List Int) : ∃ S rk c, gU [.lst (ns.map D.int), .int 8] = .ok (.lst [.lst (stD S), .lst (nats rk)]) /\ Mch S rk c := by
 have hc0 : bM [.lst (ns.map D.int), .int 0] = .ok (.int (cv ns 0)) := sZ ns 0
 generalize cv ns 0 = f at hc0
 obtain ⟨a1, a2⟩ := uR f 1 (m := 8) (by decide)
 obtain ⟨b1, b2⟩ := uR f 2 (m := 3) (by decide)
 have hM1 := lV f 1 8 (by decide)
 have hM2 := lV f 2 3 (by decide)
 have hM3 := lV f 3 6 (by decide)
 generalize wG f 1 8 = A at *
 generalize wG f 2 3 = C at *
 generalize wG f 3 6 = W at *
 obtain ⟨n, hn⟩ : ∃ n : Nat, 1 + A = n := ⟨(1 + A).toNat, by omega⟩
 obtain ⟨c, hc⟩ : ∃ c : Nat, 1 + C = c := ⟨(1 + C).toNat, by omega⟩
 have n0 : (0 : Int) < n := by omega
 have row : ∀ (E F : Ex) (x5 x6 : Option Sl), (∀ k : Nat, F ((((kst ns n c f x5 x6 none none none).set 8 none).set 8 (some (.v (.int k))))) = cD [10] (tgN 10) (lD (aB 4)) cB E ((((kst ns n c f x5 x6 none none none).set 8 none).set 8 (some (.v (.int k)))))) -> (∀ k j : Nat, ∃ i : Int, E (kst ns n c f x5 x6 none (some (.v (.int k))) none |>.set 10 (some (.v (.int j)))) = .ok (.int i) /\ 0 <= i /\ i < n) -> ∃ S, cD [8] (tgN 8) (lD (aB 3)) cB F (kst ns n c f x5 x6 none none none) = .ok (.lst (stD S)) /\ S.length = n /\ ∀ r ∈ S, r.length = c /\ ∀ x ∈ r, x < n := fun E F x5 x6 hF hE => aAb rfl (by omega) fun k hk => by
  obtain ⟨r, e1, e2, e3⟩ := aHm (E := E) (st := ((kst ns n c f x5 x6 none none none).set 8 none).set 8 (some (.v (.int k)))) (j := 10) (v := 4) (n := c) (m := n) rfl (by omega) (fun j _ => hE k j)
  exact ⟨r, (hF k).trans e1, e2, fun x hx => by have := e3 x hx; omega⟩
 have cell : ∀ (k : Nat) (st : PSt), aB 0 st = .ok (.lst (ns.map D.int)) -> aB 8 st = .ok (.int k) -> bN bM (aC (aB 0) (aC (e2 iW (eC (.int 2)) (aB 8)) (bJ))) st = .ok (.int (cv ns (2 + (k : Int)).toNat)) := fun k st h0 h8 => bZ (bT h0 (bT (bK rfl h8 rfl) rfl)) (aAc ns (2 + k) (by omega))
 obtain ⟨S1, e1, l1, r1⟩ := row qN qO none none (fun _ => rfl) fun k j => ⟨wG (cv ns (2 + (k : Int)).toNat) j n, bZ (bT (cell k _ rfl rfl) rfl) (lV _ _ _ n0), uR _ _ n0⟩
 obtain ⟨S5, e5, l5, r5⟩ := row qP jN (some (.v (.lst (stD S1)))) (some (.v (.int W))) (fun _ => rfl) fun k j => ⟨((k : Int) + j) % n, bK (bK rfl rfl rfl) rfl (aBn n0), Int.emod_nonneg _ (by omega), Int.emod_lt_of_pos _ n0⟩
 obtain ⟨S8, e8, l8, r8⟩ : ∃ S, cD [8] (tgN 8) (lD (aB 3)) cB mG (kst ns n c f (some (.v (.lst (stD S1)))) (some (.v (.int W))) none none none) = .ok (.lst (stD S)) /\ S.length = n /\ ∀ r ∈ S, r.length = c /\ ∀ x ∈ r, x < n := aAb rfl (by omega) fun k hk => by
  obtain ⟨r, d1, d2, d3⟩ := aAd (cv ns (2 + (k : Int)).toNat) n c (by omega) (by omega) (by omega) (by omega)
  exact ⟨r, bZ (bT (cell k _ rfl rfl) rfl) d1, by rw [d2, Int.toNat_natCast], fun x hx => by have := d3 x hx; omega⟩
 have fin : ∀ S : List (List Nat), S.length = n -> (∀ r ∈ S, r.length = c /\ ∀ x ∈ r, x < n) -> ∃ rk, (bQ (pA 7 (qG bJ)) (bQ (sH (tgN 8) (lD (aB 3)) eQ) (sFz [7] (eF (qG (aC (aB 5) (aC (aB 7) bJ))))))) (kst ns n c f (some (.v (.lst (stD S)))) (some (.v (.int W))) none none none) = .ok (.rt (.lst [.lst (stD S), .lst (nats rk)])) /\ Mch S rk c := fun S hS hr => by
  obtain ⟨rk, k', r', h1, h2⟩ := yC ns n c f (some (.v (.lst (stD S)))) (some (.v (.int W))) (List.range n) [] none none (by rw [List.length_range]; show 0 + n <= 1000; omega)
  refine ⟨rk, bI (st' := kst ns n c f (some (.v (.lst (stD S)))) (some (.v (.int W))) (some (.o .l [])) none none) (aBm (aEm rfl)) (bI (rJ (aOx rfl (by omega)) h1) ?_), ⟨by omega, by omega, by omega, by omega, by rw [hS]; exact hr, by rw [h2, hS, List.length_range]; exact Nat.zero_add n⟩⟩
  exact mO (aEm rfl)
 have start : ∀ (r : D), (bQ (sIf (e2 dEq (aB 6) (eC (.int 0))) (eO 5 (cD [8] (tgN 8) (lD (aB 3)) cB jN)) dG) (bQ (sIf (e2 dGt (aB 6) (eC (.int 2))) (eO 5 (cD [8] (tgN 8) (lD (aB 3)) cB mG)) dG) (bQ (pA 7 (qG bJ)) (bQ (sH (tgN 8) (lD (aB 3)) eQ) (sFz [7] (eF (qG (aC (aB 5) (aC (aB 7) bJ))))))))) (kst ns n c f (some (.v (.lst (stD S1)))) (some (.v (.int W))) none none none) = .ok (.rt r) -> gU [.lst (ns.map D.int), .int 8] = .ok r := fun r h => by
  refine gF rfl (bI (st' := [some (.v (.lst (ns.map D.int))), some (.v (.int 8)), some (.v (.int f)), none, none, none, none, none, none, none, none]) (dF (bZ rfl hc0)) ?_)
  refine bI (st' := [some (.v (.lst (ns.map D.int))), some (.v (.int 8)), some (.v (.int f)), some (.v (.int n)), none, none, none, none, none, none, none]) (dF (bK rfl (bZ rfl hM1) (by rw [<- hn]; rfl))) ?_
  refine bI (st' := kst ns n c f none none none none none) (dF (bK rfl (bZ rfl hM2) (by rw [<- hc]; rfl))) ?_
  refine bI (st' := kst ns n c f (some (.v (.lst (stD S1)))) none none none none) (dF e1) ?_
  exact bI (st' := kst ns n c f (some (.v (.lst (stD S1)))) (some (.v (.int W))) none none none) (dF (bZ rfl hM3)) h
 have t0 : ∀ x5, e2 dEq (aB 6) (eC (.int 0)) (kst ns n c f x5 (some (.v (.int W))) none none none) = .ok (.bl (decide (W = 0))) := fun x5 => bK rfl rfl (aBo _ _)
 have t2 : ∀ x5, e2 dGt (aB 6) (eC (.int 2)) (kst ns n c f x5 (some (.v (.int W))) none none none) = .ok (.bl (decide ((2 : Int) < W))) := fun x5 => bK rfl rfl rfl
 by_cases h0 : W = 0
 ·obtain ⟨rk, h1, h2⟩ := fin S5 l5 r5
  exact ⟨S5, rk, c, start _ (bI (st' := kst ns n c f (some (.v (.lst (stD S5)))) (some (.v (.int W))) none none none) (aJp (vO (t0 _) (decide_eq_true h0)) (dF e5)) (cU (qH (vO (t2 _) (decide_eq_false (by omega))) rfl) h1)), h2⟩
 ·have f0 := qH (a := eO 5 (cD [8] (tgN 8) (lD (aB 3)) cB jN)) (b := dG) (vO (t0 (some (.v (.lst (stD S1))))) (decide_eq_false h0)) rfl
  by_cases h2' : 2 < W
  ·obtain ⟨rk, h1, h2⟩ := fin S8 l8 r8
   exact ⟨S8, rk, c, start _ (cU f0 (bI (st' := kst ns n c f (some (.v (.lst (stD S8)))) (some (.v (.int W))) none none none) (aJp (vO (t2 _) (decide_eq_true h2')) (dF e8)) h1)), h2⟩
  ·obtain ⟨rk, h1, h2⟩ := fin S1 l1 r1
   exact ⟨S1, rk, c, start _ (cU f0 (cU (qH (vO (t2 _) (decide_eq_false h2')) rfl) h1)), h2⟩
end Pu
namespace Pu
theorem wN {tg : Tg} {L : Bd} (P : PSt -> Prop) : ∀ (ks : List D), (∀ d ∈ ks, ∀ st, P st -> ∃ s1 st', tg d st = .ok s1 /\ L s1 = .ok (.nx st') /\ P st') -> ∀ st, P st -> ∃ st', P st' /\ forR tg L ks st = .ok (.nx st')
 | [], _, st, p => ⟨st, p, rfl⟩
 | d :: ks, h, st, p => by
  obtain ⟨s1, st', e1, e2, p'⟩ := h d List.mem_cons_self st p
  obtain ⟨st2, p2, e3⟩ := wN P ks (fun d hd => h d (List.mem_cons_of_mem _ hd)) st' p'
  refine ⟨st2, p2, ?_⟩
  rw [nA, e1]
  simp only [aO, e2]
  exact e3
theorem tD {E : Ex} {st : PSt} {j v : Nat} {xs : List D} (hv : st[v]? = some (some (.v (.lst xs)))) (hl : xs.length <= 100000) (h : ∀ d ∈ xs, E ((st.set j none).set j (some (.v d))) = .ok (.bl true)) : e1 wC (cD [j] (tgN j) (itE (aB v)) cB E) st = .ok (.bl true) := by
 have e := kZ (tg := tgN j) (c := cB) (f := E) (st := st.set j none) (fun _ => D.bl true) xs fun d hd => ⟨_, rfl, rfl, h d hd⟩
 have e2 : xs.map (fun _ => D.bl true) = (xs.map fun _ => true).map D.bl := by simp
 simp [hv, show xs.length <= big from aM (by omega), e]
 rw [e2, <- aCx]
 exact aJn rfl fun b hb => by obtain ⟨_, _, z⟩ := List.mem_map.mp hb; exact z.symm
theorem aAe {E : Ex} {st : PSt} {j v : Nat} {xs : List D} (hv : st[v]? = some (some (.v (.lst xs)))) (hl : xs.length <= 100000) (h : ∀ d ∈ xs, E ((st.set j none).set j (some (.v d))) = .ok d) : cD [j] (tgN j) (itE (aB v)) cB E st = .ok (.lst xs) := by
 have e := kZ (tg := tgN j) (c := cB) (f := E) (st := st.set j none) id xs fun d hd => ⟨_, rfl, rfl, h d hd⟩
 simp [hv, show xs.length <= big from aM (by omega), e]
theorem aAf (i : Int) : gQ [.int i] = .ok (.bl true) := by
 unfold gQ rE
 simp [isIn, aPw]
theorem aAg {x n : Nat} (h : x < n) : fM [.int x, .int n] = .ok (.bl true) := by
 have hw := aAf x
 unfold fM rF
 simp [hw, h]
theorem aAh (xs : List D) (m : Int) : cY [.lst xs, .int m] = .ok (.bl (decide (1 <= (xs.length : Int)) && decide ((xs.length : Int) <= m))) := by
 unfold cY jC
 by_cases h : 1 <= xs.length
 ·have h' : (1 : Int) <= xs.length := by omega
  simp [aCr, h, h']
 ·have h' : ¬ (1 : Int) <= xs.length := by omega
  simp [aCr, h, h']
theorem bW (r : List Nat) : (nats r).length = r.length := by unfold nats; simp
theorem jQ (S : List (List Nat)) : (stD S).length = S.length := by unfold stD; simp
theorem pL {r : List Nat} {d : D} (h : d ∈ nats r) : ∃ x ∈ r, d = .int (x : Nat) := by
 obtain ⟨x, h1, h2⟩ := List.mem_map.mp h
 exact ⟨x, h1, h2.symm⟩
theorem wO {S : List (List Nat)} {d : D} (h : d ∈ stD S) : ∃ r ∈ S, d = .lst (nats r) := by
 obtain ⟨x, h1, h2⟩ := List.mem_map.mp h
 exact ⟨x, h1, h2.symm⟩
theorem aQp (r : List Nat) (n : Nat) (h : ∀ x ∈ r, x < n) (hl : r.length <= 1000) : sY [.lst (nats r), .int r.length, .int n] = .ok (.bl true) := by
 have e := tD (E := rG) (st := [some (.v (.lst (nats r))), some (.v (.int r.length)), some (.v (.int n)), none]) (j := 3) (v := 0) (xs := nats r) rfl (by rw [bW]; omega) (fun d hd => by
  obtain ⟨x, hx, rfl⟩ := pL hd
  have := h x hx
  simp [rG, aAg this])
 refine gF rfl ?_
 unfold xU
 have h1 : e2 dEq (e1 fJ (aB 0)) (aB 1) [some (.v (.lst (nats r))), some (.v (.int r.length)), some (.v (.int n)), none] = .ok (.bl true) := by simp [bW]
 show eF _ [some (.v (.lst (nats r))), some (.v (.int r.length)), some (.v (.int n)), none] = _
 rw [wM, aFo, h1]
 show (e1 wC _ _).bind _ = _
 rw [e]
 rfl
def mD (S : List (List Nat)) (rk : List Nat) (c : Nat) : D := .ins "Machine" ["steps", "ranks", "many", "letters"] [.lst (stD S), .lst (nats rk), .int S.length, .int c]
section
variable {S : List (List Nat)} {rk : List Nat} {c : Nat}
theorem Mch.row0 (M : Mch S rk c) : ∃ r T, S = r :: T /\ r.length = c := by
 cases S with
 | nil => exact absurd M.one (by simp)
 | cons r T => exact ⟨r, T, rfl, (M.row r List.mem_cons_self).1⟩
theorem Mch.at0 (M : Mch S rk c) : ∃ r, r ∈ S /\ atI (stD S) 0 = some (.lst (nats r)) /\ r.length = c := by
 obtain ⟨r, T, rfl, h⟩ := M.row0
 refine ⟨r, List.mem_cons_self, ?_, h⟩
 have := atI_nat (xs := stD (r :: T)) (i := 0) (by simp [stD])
 simpa [stD] using this
theorem aJu (M : Mch S rk c) : lR [.lst (stD S)] = .ok (.bl true) := by
 obtain ⟨r0, hr0, e0, l0⟩ := M.at0
 have h1 := M.one
 have h8 := M.most
 have f1 := aAh (stD S) 8
 rw [jQ] at f1
 have f1' : cY [.lst (stD S), .int 8] = .ok (.bl true) := by rw [f1]; congr 2; simp; omega
 have a1 := tD (E := mJ) (st := [some (.v (.lst (stD S))), none]) (j := 1) (v := 0) (xs := stD S) rfl (by rw [jQ]; omega) (fun d hd => by
  obtain ⟨r, hr, rfl⟩ := wO hd
  have f := aAh (nats r) 3
  rw [bW, (M.row r hr).1] at f
  have h3 := M.c3
  have h0 := M.c1
  simp [mJ, f]
  omega)
 have a2 := tD (E := mK) (st := [some (.v (.lst (stD S))), none]) (j := 1) (v := 0) (xs := stD S) rfl (by rw [jQ]; omega) (fun d hd => by
  obtain ⟨r, hr, rfl⟩ := wO hd
  have h3 := M.c3
  have f := aQp r S.length (M.row r hr).2 (by rw [(M.row r hr).1]; omega)
  have el : (nats r0).length = r.length := by rw [bW, l0, (M.row r hr).1]
  simp [mK, e0, el, jQ, f])
 refine gF rfl ?_
 unfold pH
 refine cU (by simp [f1']) (cU ?_ ?_)
 ·rw [aEg, aFp]
  show ((e1 wC _ [some (.v (.lst (stD S))), none]).bind _).bind _ = _
  rw [a1]; rfl
 ·rw [wM]
  show (e1 wC _ [some (.v (.lst (stD S))), none]).bind _ = _
  rw [a2]; rfl
theorem aJv (M : Mch S rk c) : lU [.lst (nats rk), .int S.length] = .ok (.bl true) := by
 have h8 := M.most
 have a1 := tD (E := mL) (st := [some (.v (.lst (nats rk))), some (.v (.int S.length)), none]) (j := 2) (v := 0) (xs := nats rk) rfl (by rw [bW, M.rks]; omega) (fun d hd => by
  obtain ⟨x, hx, rfl⟩ := pL hd
  simp [mL, aAf])
 refine gF rfl ?_
 unfold pI
 refine cU (by simp [aCr, bW, M.rks]) ?_
 rw [wM]
 show (e1 wC _ [some (.v (.lst (nats rk))), some (.v (.int S.length)), none]).bind _ = _
 rw [a1]; rfl
theorem yD : iJ "Machine" "many" (mD S rk c) = .ok (.int S.length) := by unfold mD; rw [sI, aG rfl]; rfl
theorem aCy : iJ "Machine" "letters" (mD S rk c) = .ok (.int c) := by unfold mD; rw [sI, aG rfl]; rfl
theorem uT : iJ "Machine" "steps" (mD S rk c) = .ok (.lst (stD S)) := by unfold mD; rw [sI, aG rfl]; rfl
end
end Pu
namespace Pu
section
variable {S : List (List Nat)} {rk : List Nat} {c : Nat}
def stp (S : List (List Nat)) (q a : Nat) : Nat := (S.getD q []).getD a 0
theorem aBp (M : Mch S rk c) {q a : Nat} (hq : q < S.length) (ha : a < c) : ∃ r, atI (stD S) (q : Int) = some (.lst (nats r)) /\ atI (nats r) (a : Int) = some (.int (stp S q a)) /\ stp S q a < S.length := by
 have hr := M.row S[q] (List.getElem_mem hq)
 have ha' : a < S[q].length := by rw [hr.1]; exact ha
 have e : stp S q a = S[q][a] := by
  simp [stp, List.getD_eq_getElem?_getD, List.getElem?_eq_getElem hq, List.getElem?_eq_getElem ha']
 refine ⟨S[q], ?_, ?_, ?_⟩
 ·rw [atI_nat (by rw [jQ]; exact hq)]; simp [stD]
 ·rw [atI_nat (by rw [bW]; exact ha'), e]; simp [nats]
 ·rw [e]; exact hr.2 _ (List.getElem_mem ha')
theorem aCz {m : Nat} (h : m <= 3) {ch : Nat} (h1 : 97 <= ch) (h2 : (ch : Int) < 97 + m) : fC [97, 98, 99] [ch] 0 = some (ch - 97) := by
 have : ch = 97 \/ ch = 98 \/ ch = 99 := by omega
 rcases this with rfl | rfl | rfl <;> rfl
theorem aBq (M : Mch S rk c) {q ch : Nat} (hq : q < S.length) (h1 : 97 <= ch) (h2 : (ch : Int) < 97 + c) : ∃ r, atI (stD S) (q : Int) = some (.lst (nats r)) /\ atI (nats r) (((ch - 97 : Nat)) : Int) = some (.int (stp S q (ch - 97))) /\ stp S q (ch - 97) < S.length := aBp M hq (by omega)
def runs (S : List (List Nat)) : Nat -> List Nat -> List Nat
 | _, [] => []
 | q, ch :: x => stp S q (ch - 97) :: runs S (stp S q (ch - 97)) x
def oA (S : List (List Nat)) : Nat -> List Nat -> Nat
 | q, [] => q
 | q, ch :: x => oA S (stp S q (ch - 97)) x
end
theorem aD0 : ∀ (n : Nat) (l : List Nat), l.Nodup -> (∀ x ∈ l, x < n) -> l.length <= n
 | 0, l, _, h => by
  cases l with
  | nil => exact Nat.le_refl _
  | cons x l => exact absurd (h x List.mem_cons_self) (by omega)
 | n + 1, l, nd, h => by
  have ih := aD0 n (l.erase n) (nd.erase n) fun x hx => by
   have h1 := h x (List.mem_of_mem_erase hx)
   have h2 : x ≠ n := fun e => ((nd.mem_erase_iff).mp hx).1 e
   omega
  by_cases hm : n ∈ l
  ·rw [List.length_erase_of_mem hm] at ih; omega
  ·rw [List.erase_of_not_mem hm] at ih; omega
theorem aMn (g : Nat) (l : List Nat) : inD (.int g) (nats l) = decide (g ∈ l) := by
 unfold inD nats
 rw [List.any_map]
 by_cases h : g ∈ l
 ·rw [decide_eq_true h, List.any_eq_true]
  exact ⟨g, h, by simp [eqD]⟩
 ·rw [decide_eq_false h, List.any_eq_false]
  intro x hx
  have : ¬ (x : Int) = (g : Int) := fun z => h (by have : x = g := by omega
                                                   rw [<- this]; exact hx)
  simp [eqD, this]
theorem aBr {S : List (List Nat)} {q : Nat} (hq : q < S.length) : atI (stD S) (q : Int) = some (.lst (nats S[q])) := by
 rw [atI_nat (by rw [jQ]; exact hq)]
 unfold stD
 rw [List.getElem_map]
end Pu
namespace Pu
section
variable {S : List (List Nat)} {rk : List Nat} {c : Nat}
theorem aG0 (M : Mch S rk c) : cZ [.lst (stD S), .lst (nats rk)] = .ok (mD S rk c) := by
 obtain ⟨r0, hr0, e0, l0⟩ := M.at0
 have h8 := M.most
 refine aMb fun x => ?_
 unfold aA5
 rw [aG (show ([D.lst (stD S), D.lst (nats rk)] : List D).length = 2 from rfl)]
 have hs := aJu M
 have hk := aJv M
 have cp := aAe (E := fO) (st := [some (.o (.i x "Machine" []) []), some (.v (.lst (stD S))), some (.v (.lst (nats rk))), none]) (j := 3) (v := 1) (xs := stD S) rfl (by rw [jQ]; omega) (fun d hd => by
  obtain ⟨r, hr, rfl⟩ := wO hd
  simp [fO])
 have key : dN [some (.o (.i x "Machine" []) []), some (.v (.lst (stD S))), some (.v (.lst (nats rk))), none] = .ok (.nx [some (.o (.i x "Machine" ["steps", "ranks", "many", "letters"]) [.lst (stD S), .lst (nats rk), .int S.length, .int c]), some (.v (.lst (stD S))), some (.v (.lst (nats rk))), none]) := by
  unfold dN
  refine cU (by simp [hs]) (cU (by simp [jQ, hk]) ?_)
  refine bI (st' := [some (.o (.i x "Machine" ["steps"]) [.lst (stD S)]), some (.v (.lst (stD S))), some (.v (.lst (nats rk))), none]) ?_ ?_
  ·rw [aJe, cp]
   simp
  refine bI (st' := [some (.o (.i x "Machine" ["steps", "ranks"]) [.lst (stD S), .lst (nats rk)]), some (.v (.lst (stD S))), some (.v (.lst (nats rk))), none]) (by simp) ?_
  refine bI (st' := [some (.o (.i x "Machine" ["steps", "ranks", "many"]) [.lst (stD S), .lst (nats rk), .int S.length]), some (.v (.lst (stD S))), some (.v (.lst (nats rk))), none]) (by simp [jQ]) ?_
  simp [e0, bW, l0]
 show (dN [some (.o (.i x "Machine" []) []), some (.v (.lst (stD S))), some (.v (.lst (nats rk))), none]).bind _ = _
 rw [key]
 simp [mD]
end
end Pu
namespace Pu
section
variable {S : List (List Nat)} {rk : List Nat} {c : Nat}
theorem yE {m : String} {p : List D -> R D} {dv xs : List D} {f : Ex} {r : Exs} {st : PSt} (hf : f st = .ok (mD S rk c)) (hr : r st = .ok xs) (hm : m ∉ ["steps", "ranks", "many", "letters"]) : pB "Machine" m p dv f r st = p (mD S rk c :: (xs ++ dv)) := by
 rw [aJf, hf, hr]
 exact aG ⟨rfl, hm⟩
theorem yF (M : Mch S rk c) (a t : Option Sl) (ha : a = some (.v (mD S rk c))) : ∀ (x : List Nat) (q : Nat) (acc : List Nat) (l : Option Sl), q < S.length -> Ltr c x -> acc.length + x.length <= 1000000 -> ∃ l', forR (tgN 4) eU (x.map fun ch => D.str [ch]) [a, some (.v (.int q)), t, some (.o .l (nats acc)), l] =
  .ok (.nx [a, some (.v (.int (oA S q x))), t, some (.o .l (nats (acc ++ runs S q x))), l'])
 | [], q, acc, l, _, _, _ => ⟨l, by simp [oA, runs]⟩
 | ch :: x, q, acc, l, h, hx, hl => by
  rw [List.length_cons] at hl
  obtain ⟨h1, h2⟩ := hx ch List.mem_cons_self
  obtain ⟨r, e1, e2, h3⟩ := aBq M h h1 h2
  obtain ⟨l', e⟩ := yF M a t ha x (stp S q (ch - 97)) (acc ++ [stp S q (ch - 97)]) (some (.v (.str [ch]))) h3 (fun z hz => hx z (List.mem_cons_of_mem _ hz)) (by rw [List.length_append, List.length_singleton]; omega)
  refine ⟨l', ?_⟩
  have f := aCz M.c3 h1 h2
  have en : nats (acc ++ [stp S q (ch - 97)]) = nats acc ++ [D.int (stp S q (ch - 97))] := by unfold nats; simp
  rw [en] at e
  rw [List.map_cons, nA, show runs S q (ch :: x) = stp S q (ch - 97) :: runs S (stp S q (ch - 97)) x from rfl, show acc ++ stp S q (ch - 97) :: runs S (stp S q (ch - 97)) x = acc ++ [stp S q (ch - 97)] ++ runs S (stp S q (ch - 97)) x by simp, show oA S q (ch :: x) = oA S (stp S q (ch - 97)) x from rfl, <- e]
  subst ha
  simp [eU, uT, e1, f, e2, bW, show acc.length < big from aQ (by omega)]
theorem aJw (M : Mch S rk c) {q : Nat} (hq : q < S.length) (x : List Nat) (hx : Ltr c x) (hl : x.length <= 500000) : bH [mD S rk c, .int q, .str x] = .ok (.lst (nats (q :: runs S q x))) := by
 obtain ⟨l', e⟩ := yF M _ (some (.v (.str x))) rfl x q [q] none hq hx (by simp; omega)
 refine gF rfl ?_
 have hb : cT [some (.v (mD S rk c)), some (.v (.int q)), some (.v (.str x)), none, none] = .ok (.nx [some (.v (mD S rk c)), some (.v (.int (oA S q x))), some (.v (.str x)), some (.o .l (nats ([q] ++ runs S q x))), l']) := by
  unfold cT
  refine bI (st' := [some (.v (mD S rk c)), some (.v (.int q)), some (.v (.str x)), some (.o .l (nats [q])), none]) (by simp [nats]) (bI (by
   simp [show x.length <= big from aM (by omega)]
   exact e) rfl)
 show sS cT 3 [some (.v (mD S rk c)), some (.v (.int q)), some (.v (.str x)), none, none] = _
 unfold sS
 rw [hb]
 rfl
theorem atI_last {α : Type} {xs : List α} {a : α} (h : xs.getLast? = some a) : atI xs (-1) = some a := by
 have h0 : xs ≠ [] := fun z => by rw [z] at h; cases h
 have hp : 0 < xs.length := List.length_pos_iff.mpr h0
 rw [List.getLast?_eq_getElem?] at h
 unfold atI ixN
 rw [if_neg (by decide), if_pos (by omega)]
 show xs[((-1 : Int) + (xs.length : Int)).toNat]? = some a
 rw [show ((-1 : Int) + (xs.length : Int)).toNat = xs.length - 1 by omega]
 exact h
theorem aHo {r : List Nat} {a : Nat} (h : r.getLast? = some a) : (nats r).getLast? = some (.int a) := by
 unfold nats
 rw [List.getLast?_map, h]
 rfl
end
end Pu
namespace Pu
theorem join_one (l : List Nat) : sO [] (l.map fun c => [c]) = l := by
 induction l with
 | nil => rfl
 | cons a l ih =>
  cases l with
  | nil => rfl
  | cons b l =>
   show [a] ++ [] ++ sO [] ((b :: l).map fun c => [c]) = _
   rw [ih]; rfl
theorem aG1 (l : List Nat) (h : l.length <= 1000000) : aA6 (.str []) [.lst (l.map fun c => D.str [c])] = .ok (.str l) := by
 have e : (l.map fun c => D.str [c]) = (l.map fun c => [c]).map D.str := by simp
 have hs : ((l.map fun c => [c]).map List.length).sum = l.length := by
  rw [List.map_map]
  induction l with
  | nil => rfl
  | cons a l ih => rw [List.map_cons, List.sum_cons, ih (by simp at h; omega) (by simp)]; simp; omega
 show (sJ _).bind _ = _
 rw [e, aA7]
 simp only [aO]
 rw [aG (by rw [hs]; simp; exact aM (by omega)), join_one]
end Pu
namespace Pu
theorem aG2 {m : Mop} {f : Ex} {r : Exs} {st : PSt} {x : D} {xs : List D} {y : R D} (hf : f st = .ok x) (hr : r st = .ok xs) (h : m x xs = y) : eMt m f r st = y := by
 show R.bind (f st) _ = _
 rw [hf, aO, hr, aO, h]
theorem aJx {i : Int} {ch : Nat} (h : atI [97, 98, 99] i = some ch) : dIx (.str [97, 98, 99]) (.int i) = .ok (.str [ch]) := by
 show aH _ (ofO ((atI [97, 98, 99] i).map _)) = _
 rw [h]
 exact aG (aM (by show 3 <= _; omega))
theorem aBs : ∀ (ys : List D) (c : Nat), (∀ y ∈ ys, ∃ ch : Nat, y = .str [ch] /\ 97 <= ch /\ (ch : Int) < 97 + c) -> ∃ x : List Nat, ys = x.map (fun ch => D.str [ch]) /\ Ltr c x
 | [], _, _ => ⟨[], rfl, fun _ h => nomatch h⟩
 | y :: ys, c, h => by
  obtain ⟨ch, rfl, h1⟩ := h y List.mem_cons_self
  obtain ⟨x, rfl, h2⟩ := aBs ys c fun y hy => h y (List.mem_cons_of_mem _ hy)
  exact ⟨ch :: x, rfl, fun z hz => (List.mem_cons.mp hz).elim (fun e => e ▸ h1) (h2 z)⟩
theorem aD1 (cell : Int) (n c : Nat) (h1 : 1 <= c) (h3 : c <= 3) (hn : n <= 1000) : ∃ x, gW [.int cell, .int n, .int c] = .ok (.str x) /\ x.length = n /\ Ltr c x := by
 have t : e2 dEq (e2 oK (aB 0) (eC (.int 2))) (eC (.int 1)) [some (.v (.int cell)), some (.v (.int n)), some (.v (.int c)), none, none] = .ok (.bl (decide (cell % 2 = 1))) := bK (bK rfl rfl (aBn (by decide))) rfl (aBo _ _)
 by_cases ho : cell % 2 = 1
 ·rw [decide_eq_true ho] at t
  obtain ⟨row, e1, e2, e3⟩ := aAd (cell / 2) c n (by omega) (by omega) (by omega) (by omega)
  rw [Int.toNat_natCast] at e2
  obtain ⟨ys, e4, e5, e6⟩ := xX (tg := tgN 4) (c := cB) (f := qT) (st := [some (.v (.int cell)), some (.v (.int n)), some (.v (.int c)), none, none]) (P := fun _ y => ∃ ch : Nat, y = .str [ch] /\ 97 <= ch /\ (ch : Int) < 97 + c) (nats row) (fun d hd => by
   obtain ⟨z, hz, rfl⟩ := pL hd
   obtain ⟨ch, a1, a2, a3⟩ := aJo (m := c) (i := z) (by omega) (by omega) (by omega) (e3 z hz)
   exact ⟨_, .str [ch], rfl, rfl, bK rfl rfl (aJx a1), ch, rfl, a2, a3⟩)
  obtain ⟨x, rfl, hx⟩ := aBs ys c fun y hy => let ⟨_, _, h⟩ := e6 y hy; h
  have hl : x.length = n := by rw [List.length_map, bW, e2] at e5; exact e5
  exact ⟨x, gF rfl (aQm (aJp t (mO (aG2 rfl (bT (iM (nC (bZ (bT (bK rfl rfl (aMl (by decide))) rfl) e1)) (by rw [bW, e2]; omega) e4) rfl) (aG1 x (by omega)))))), hl, hx⟩
 ·rw [decide_eq_false ho] at t
  obtain ⟨ys, e4, e5, e6⟩ := xZ (E := qU) (st := [some (.v (.int cell)), some (.v (.int n)), some (.v (.int c)), none, none]) (j := 3) (v := 1) (n := n) (P := fun y => ∃ ch : Nat, y = .str [ch] /\ 97 <= ch /\ (ch : Int) < 97 + c) rfl (by omega) (fun k hk => by
   obtain ⟨m0, m1⟩ := uR cell (20 + k) (m := c) (by omega)
   obtain ⟨ch, a1, a2, a3⟩ := aJo (m := c) (by omega) (by omega) m0 m1
   exact ⟨.str [ch], bK rfl (bZ (bT rfl (bT (bK rfl rfl rfl) rfl)) (lV cell (20 + k) c (by omega))) (aJx a1), ch, rfl, a2, a3⟩)
  obtain ⟨x, rfl, hx⟩ := aBs ys c e6
  have hl : x.length = n := by rw [List.length_map] at e5; exact e5
  exact ⟨x, gF rfl (cU (qH t rfl) (mO (aG2 rfl (bT e4 rfl) (aG1 x (by omega))))), hl, hx⟩
end Pu
namespace Pu
def cy (c : List Nat) (i : Nat) : Nat := c.getD (i % c.length) 0
def lt (b c : List Nat) (i : Nat) : Nat := if i < b.length then b.getD i 0 else cy c (i - b.length)
theorem aUh {c : List Nat} {i : Nat} (h : i < c.length) : cy c i = c.getD i 0 := by unfold cy; rw [Nat.mod_eq_of_lt h]
theorem aQq (c : List Nat) (i : Nat) : cy c (i + c.length) = cy c i := by unfold cy; rw [Nat.add_mod_right]
end Pu
namespace Pu
theorem sIx_none (n d : Nat) : sIx n d none = d := rfl
theorem sIx_nat (n d k : Nat) : sIx n d (some (k : Int)) = min k n := by
 show (if (k : Int) < 0 then ((k : Int) + n).toNat else min (k : Int).toNat n) = _
 rw [if_neg (by omega), Int.toNat_natCast]
theorem aQr {α : Type} (x : List α) (n : Nat) : cut x none (some (n : Int)) = x.take n := by
 unfold cut
 rw [sIx_none, sIx_nat, List.drop_zero, Nat.sub_zero]
 by_cases h : n <= x.length
 ·rw [Nat.min_eq_left h]
 ·rw [Nat.min_eq_right (by omega), List.take_length, List.take_of_length_le (by omega)]
theorem aQs {α : Type} (x : List α) (n : Nat) (h : n <= x.length) : cut x (some (n : Int)) none = x.drop n := by
 unfold cut
 rw [sIx_none, sIx_nat]
 rw [Nat.min_eq_left h, List.take_of_length_le (by rw [List.length_drop]; omega)]
end Pu
namespace Pu
end Pu
namespace Pu
theorem aBt {b t : List Nat} {n : Nat} (h : b.length <= n) : ∀ k, lt b t (n + k * t.length) = lt b t n
 | 0 => by rw [Nat.zero_mul, Nat.add_zero]
 | k + 1 => by
  rw [Nat.succ_mul, <- Nat.add_assoc, <- aBt h k]
  unfold lt
  rw [if_neg (by omega), if_neg (by omega), show n + k * t.length + t.length - b.length = n + k * t.length - b.length + t.length by omega, aQq]
theorem aEp {c : Int} {b t : List Nat} (hb : Ltr c b) (ht : Ltr c t) (h1 : 1 <= t.length) (n : Nat) : 97 <= lt b t n /\ (lt b t n : Int) < 97 + c := by
 have key : ∀ (x : List Nat) (i : Nat), i < x.length -> Ltr c x -> 97 <= x.getD i 0 /\ (x.getD i 0 : Int) < 97 + c := fun x i h hx => by
  have e : x.getD i 0 = x[i] := by rw [List.getD_eq_getElem?_getD, List.getElem?_eq_getElem h]; rfl
  rw [e]
  exact hx _ (List.getElem_mem h)
 unfold lt
 split
 ·exact key _ _ (by assumption) hb
 ·exact key _ _ (Nat.mod_lt _ h1) ht
end Pu
namespace Pu
def fw (S : List (List Nat)) (f : Nat -> Nat) (q : Nat) : Nat -> Nat
 | 0 => q
 | n + 1 => stp S (fw S f q n) (f n - 97)
structure Lp (S : List (List Nat)) (f : Nat -> Nat) (q s e : Nat) : Prop where
 lt : s < e
 per : ∀ n, s <= n -> f (n + (e - s)) = f n
 eq : fw S f q s = fw S f q e
section
variable {S : List (List Nat)} {f : Nat -> Nat} {q s e s2 e2 : Nat}
theorem Lp.step (L : Lp S f q s e) : ∀ k, fw S f q (s + k + (e - s)) = fw S f q (s + k)
 | 0 => by
  have := L.lt
  rw [Nat.add_zero, show s + (e - s) = e by omega]
  exact L.eq.symm
 | k + 1 => by
  have ih := L.step k
  have h := L.per (s + k) (by omega)
  rw [show s + (k + 1) + (e - s) = (s + k + (e - s)) + 1 by omega, show s + (k + 1) = (s + k) + 1 by omega]
  show stp S (fw S f q (s + k + (e - s))) (f (s + k + (e - s)) - 97) = stp S (fw S f q (s + k)) (f (s + k) - 97)
  rw [ih, h]
theorem Lp.at (L : Lp S f q s e) (n : Nat) (h : s <= n) : fw S f q (n + (e - s)) = fw S f q n := by
 have := L.step (n - s)
 rwa [show s + (n - s) = n by omega] at this
theorem Lp.mul (L : Lp S f q s e) : ∀ (k n : Nat), s <= n -> fw S f q (n + k * (e - s)) = fw S f q n
 | 0, n, _ => by rw [Nat.zero_mul, Nat.add_zero]
 | k + 1, n, h => by
  rw [Nat.succ_mul, <- Nat.add_assoc, L.at _ (by omega), L.mul k n h]
theorem Lp.into (L : Lp S f q s e) (n : Nat) (h : s <= n) : ∃ m, s <= m /\ m < e /\ fw S f q n = fw S f q m := by
 have hl := L.lt
 have h1 := Nat.mod_lt (n - s) (show 0 < e - s by omega)
 refine ⟨s + (n - s) % (e - s), by omega, by omega, ?_⟩
 have := L.mul ((n - s) / (e - s)) (s + (n - s) % (e - s)) (by omega)
 have hd := Nat.mod_add_div (n - s) (e - s)
 rw [Nat.mul_comm] at hd
 rw [<- this]
 congr 1
 omega
theorem Lp.sub (L : Lp S f q s e) (L2 : Lp S f q s2 e2) (n : Nat) (h : s <= n) : ∃ m, s2 <= m /\ m < e2 /\ fw S f q n = fw S f q m := by
 have hl := L.lt
 have h1 : s2 * 1 <= s2 * (e - s) := Nat.mul_le_mul_left _ (by omega)
 obtain ⟨m, a, b, c⟩ := L2.into (n + s2 * (e - s)) (by omega)
 exact ⟨m, a, b, by rw [<- c, L.mul s2 n h]⟩
end
def seg (S : List (List Nat)) (f : Nat -> Nat) (q s e : Nat) : List Nat := (List.range' s (e - s)).map (fw S f q)
theorem wQ {S : List (List Nat)} {f : Nat -> Nat} {q s e r : Nat} : r ∈ seg S f q s e ↔ ∃ n, s <= n /\ n < e /\ fw S f q n = r := by
 unfold seg
 rw [List.mem_map]
 constructor
 ·rintro ⟨n, h, rfl⟩
  rw [List.mem_range'_1] at h
  exact ⟨n, h.1, by omega, rfl⟩
 ·rintro ⟨n, h1, h2, rfl⟩
  exact ⟨n, List.mem_range'_1.mpr ⟨h1, by omega⟩, rfl⟩
def mx (rk l : List Nat) : Int := zJ (l.map fun r => ((rk.getD r 0 : Nat) : Int))
theorem aMo {l : List Int} (h : l ≠ []) : zJ l ∈ l /\ ∀ x ∈ l, x <= zJ l := by
 cases l with
 | nil => exact (h rfl).elim
 | cons i r =>
  obtain ⟨h1, h2, h3⟩ := uP r i
  refine ⟨?_, fun x hx => ?_⟩
  ·rcases h3 with h3 | h3
   ·show r.foldl _ i ∈ _; rw [h3]; exact List.mem_cons_self
   ·exact List.mem_cons_of_mem _ h3
  ·rcases List.mem_cons.mp hx with rfl | hx
   ·exact h1
   ·exact h2 x hx
theorem aMp {rk l l2 : List Nat} (h0 : l ≠ []) (h : ∀ r, r ∈ l ↔ r ∈ l2) : mx rk l = mx rk l2 := by
 have h2 : l2 ≠ [] := fun z => by
  cases l with
  | nil => exact h0 rfl
  | cons a l => have := (h a).mp List.mem_cons_self; rw [z] at this; cases this
 obtain ⟨a, b⟩ := aMo (l := l2.map fun r => ((rk.getD r 0 : Nat) : Int)) (by simpa using h2)
 refine aFt ?_ fun x hx => ?_
 ·obtain ⟨r, h3, h4⟩ := List.mem_map.mp a
  rw [show mx rk l2 = _ from rfl, mx, <- h4]
  exact List.mem_map.mpr ⟨r, (h r).mpr h3, rfl⟩
 ·obtain ⟨r, h3, h4⟩ := List.mem_map.mp hx
  exact b x (List.mem_map.mpr ⟨r, (h r).mp h3, h4⟩)
def Ev (S : List (List Nat)) (rk : List Nat) (f : Nat -> Nat) (q : Nat) (v : Bool) : Prop := ∃ s e, Lp S f q s e /\ v = decide (mx rk (seg S f q s e) % 2 = 0)
theorem aJy {S : List (List Nat)} {f : Nat -> Nat} {q s e : Nat} (h : s < e) : seg S f q s e ≠ [] := fun z => by
 have : fw S f q s ∈ seg S f q s e := wQ.mpr ⟨s, Nat.le_refl _, h, rfl⟩
 rw [z] at this; cases this
theorem Ev.alone {S : List (List Nat)} {rk : List Nat} {f : Nat -> Nat} {q : Nat} {v v' : Bool} (h : Ev S rk f q v) (h' : Ev S rk f q v') : v = v' := by
 obtain ⟨s, e, L, rfl⟩ := h
 obtain ⟨s2, e2, L2, rfl⟩ := h'
 rw [aMp (aJy L.lt) fun r => ?_]
 rw [wQ, wQ]
 constructor
 ·rintro ⟨n, h1, h2, rfl⟩
  obtain ⟨m, a, b, c⟩ := L.sub L2 n h1
  exact ⟨m, a, b, c.symm⟩
 ·rintro ⟨n, h1, h2, rfl⟩
  obtain ⟨m, a, b, c⟩ := L2.sub L n h1
  exact ⟨m, a, b, c.symm⟩
theorem vQ : ∀ (n : Nat) (l : List Nat), l.Nodup -> (∀ x ∈ l, x < n) -> l.length <= n
 | 0, l, _, h => by
  cases l with
  | nil => simp
  | cons a l => exact absurd (h a List.mem_cons_self) (by omega)
 | n + 1, l, nd, h => by
  have h1 := vQ n (l.erase n) (nd.erase n) (fun x hx => by
   have := h x (List.mem_of_mem_erase hx)
   have hne : x ≠ n := fun z => by rw [z] at hx; exact (List.Nodup.not_mem_erase nd) hx
   omega)
  have h2 := List.length_erase (a := n) (l := l)
  split at h2 <;> omega
theorem least {P : Nat -> Prop} : ∀ n, P n -> ∃ m, m <= n /\ P m /\ ∀ k, k < m -> ¬ P k := by
 intro n
 induction n using Nat.strongRecOn with
 | ind n ih =>
  intro h
  by_cases hx : ∃ k, k < n /\ P k
  ·obtain ⟨k, hk, pk⟩ := hx
   obtain ⟨m, a, b, c⟩ := ih k hk pk
   exact ⟨m, by omega, b, c⟩
  ·exact ⟨n, Nat.le_refl _, h, fun k hk pk => hx ⟨k, hk, pk⟩⟩
theorem aD2 (g : Nat -> Nat) (n : Nat) (h : ∀ i, g i < n) : ∃ J, J <= n /\ (∃ i, i < J /\ g i = g J) /\ ∀ j, j < J -> ∀ i, i < j -> g i ≠ g j := by
 have ex : ∃ J, J <= n /\ ∃ i, i < J /\ g i = g J := by
  by_cases hx : ∃ J, J <= n /\ ∃ i, i < J /\ g i = g J
  ·exact hx
  ·have inj : ∀ i j, i < j -> j <= n -> g i ≠ g j := fun i j hi hj z => hx ⟨j, hj, i, hi, z⟩
   have nd : ((List.range (n + 1)).map g).Nodup := by
    rw [List.nodup_iff_pairwise_ne, List.pairwise_map]
    refine List.Pairwise.imp_of_mem ?_ (List.pairwise_lt_range)
    intro a b ha hb hab
    exact inj a b hab (by have := List.mem_range.mp hb; omega)
   have := vQ n _ nd (fun x hx => by obtain ⟨i, _, rfl⟩ := List.mem_map.mp hx; exact h i)
   simp at this
   omega
 obtain ⟨J, hJ, hp⟩ := ex
 obtain ⟨m, a, b, c⟩ := least (P := fun J => ∃ i, i < J /\ g i = g J) J hp
 exact ⟨m, by omega, b, fun j hj i hi z => c j hj ⟨i, hi, z⟩⟩
theorem aAi {C : Ex} {L : Bd} (st : Nat -> PSt) (J : Nat) (hgo : ∀ j, j < J -> C (st j) = .ok (.bl true) /\ L (st j) = .ok (.nx (st (j + 1)))) (hst : C (st J) = .ok (.bl false)) : ∀ (k fuel : Nat), k <= J -> k < fuel -> gP C L fuel (st (J - k)) = .ok (.nx (st J))
 | 0, fuel, _, hf => by
  obtain ⟨m, rfl⟩ : ∃ m, fuel = m + 1 := ⟨fuel - 1, by omega⟩
  rw [lO, Nat.sub_zero, hst]
  rfl
 | k + 1, fuel, hk, hf => by
  obtain ⟨m, rfl⟩ : ∃ m, fuel = m + 1 := ⟨fuel - 1, by omega⟩
  obtain ⟨h1, h2⟩ := hgo (J - (k + 1)) (by omega)
  have ih := aAi st J hgo hst k m (by omega) (by omega)
  rw [lO, h1]
  simp only [aO, mC, if_true, h2]
  rw [show J - (k + 1) + 1 = J - k by omega]
  exact ih
end Pu
namespace Pu
section
variable {S : List (List Nat)} {rk : List Nat} {c : Nat} {f : Nat -> Nat} {q : Nat}
theorem aG3 {s : Nat} : seg S f q s s = [] := by unfold seg; rw [Nat.sub_self]; rfl
theorem tE {s e : Nat} (h : s < e) : seg S f q s e = fw S f q s :: seg S f q (s + 1) e := by
 unfold seg
 rw [show e - s = (e - (s + 1)) + 1 by omega, List.range'_succ, List.map_cons]
theorem wR {s m e : Nat} (h1 : s <= m) (h2 : m <= e) : seg S f q s m ++ seg S f q m e = seg S f q s e := by
 unfold seg
 have := List.range'_append_1 (s := s) (m := m - s) (n := e - m)
 rw [show s + (m - s) = m by omega, show m - s + (e - m) = e - s by omega] at this
 rw [<- List.map_append, this]
theorem aMq {s : Nat} : seg S f q s (s + 1) = [fw S f q s] := by rw [tE (by omega), aG3]
theorem tH {s e : Nat} : (seg S f q s e).length = e - s := by unfold seg; simp
theorem aD3 {s e : Nat} (h : s <= e) : seg S f q s (e + 1) = seg S f q s e ++ [fw S f q e] := by rw [<- aMq, wR h (by omega)]
theorem aJz {s e : Nat} (h : s <= e) : (seg S f q s (e + 1)).getLast? = some (fw S f q e) := by rw [aD3 h, List.getLast?_append]; rfl
theorem aD4 : ∀ (x : List Nat) (n : Nat), (∀ i, i < x.length -> x.getD i 0 = f (n + i)) -> runs S (fw S f q n) x = seg S f q (n + 1) (n + 1 + x.length)
 | [], n, _ => by rw [List.length_nil, Nat.add_zero, aG3]; rfl
 | ch :: x, n, h => by
  have h0 : ch = f n := by have := h 0 (by simp); simpa using this
  have e : stp S (fw S f q n) (ch - 97) = fw S f q (n + 1) := by rw [h0]; rfl
  rw [List.length_cons, tE (by omega), <- e, show n + 1 + (x.length + 1) = n + 1 + 1 + x.length by omega, <- aD4 x (n + 1) (fun i hi => by
   have := h (i + 1) (by simp; omega)
   rw [show n + 1 + i = n + (i + 1) by omega, <- this]
   simp), <- e]
  rfl
theorem aG4 (M : Mch S rk c) (hf : ∀ n, 97 <= f n /\ (f n : Int) < 97 + c) (hq : q < S.length) : ∀ n, fw S f q n < S.length
 | 0 => hq
 | n + 1 => by
  obtain ⟨_, _, _, h⟩ := aBq M (aG4 M hf hq n) (hf n).1 (hf n).2
  exact h
end
section
variable {K V : Nat -> D} {g : Nat -> Nat} (hK : ∀ i j, eqK (K i) (K j) = decide (g i = g j))
include hK
theorem aMr {j m : Nat} (h : ∀ i, i < j -> g i ≠ g m) : kO ((List.range j).map K) (K m) = false := by
 unfold kO
 rw [List.any_map, List.any_eq_false]
 intro i hi
 have := h i (List.mem_range.mp hi)
 simp [hK, this]
theorem aK0 {i j m : Nat} (h : i < j) (e : g i = g m) : kO ((List.range j).map K) (K m) = true := by
 unfold kO
 rw [List.any_map, List.any_eq_true]
 exact ⟨i, List.mem_range.mpr h, by simp [hK, e]⟩
theorem aK1 {i j m : Nat} (h : i < j) (e : g i = g m) (hn : ∀ a, a < i -> g a ≠ g m) : qF ((List.range j).map K) ((List.range j).map V) (K m) = some (V i) := by
 unfold qF
 rw [List.zip_map', List.find?_map]
 have : (List.range j).find? ((fun p : D × D => eqK p.1 (K m)) ∘ fun a => (K a, V a)) = some i := by
  rw [List.find?_range_eq_some]
  refine ⟨by simp [hK, e], List.mem_range.mpr h, fun a ha => ?_⟩
  have := hn a ha
  simp [hK, this]
 rw [this]
 rfl
end
theorem aD5 (F : Nat -> D) (j : Nat) : (List.range j).map F ++ [F j] = (List.range (j + 1)).map F := by rw [List.range_succ, List.map_append]; rfl
theorem tK (a b : List Nat) : nats a ++ nats b = nats (a ++ b) := by unfold nats; rw [List.map_append]
theorem aK2 {α : Type} (a : α) (x : List α) : cut (a :: x) (some 1) none = x := by
 have := aQs (a :: x) 1 (by simp)
 simpa using this
theorem aMs {α : Type} (x y : List α) (a : α) (n : Nat) (h : x.length = n) : cut (x ++ y ++ [a]) (some (n : Int)) (some (-1)) = y := by
 subst h
 have l : (x ++ y ++ [a]).length = x.length + y.length + 1 := by simp; omega
 unfold cut
 have e1 : sIx (x ++ y ++ [a]).length 0 (some (x.length : Int)) = x.length := by
  rw [l]; show (if ((x.length : Int) < 0) then ((x.length : Int) + ((x.length + y.length + 1 : Nat) : Int)).toNat else min (x.length : Int).toNat (x.length + y.length + 1)) = _; rw [if_neg (by omega)]; omega
 have e2 : sIx (x ++ y ++ [a]).length (x ++ y ++ [a]).length (some (-1)) = x.length + y.length := by
  rw [l]; unfold sIx; simp; omega
 rw [e1, e2, List.append_assoc, List.drop_left, show x.length + y.length - x.length = y.length by omega, List.take_left]
section
variable {S : List (List Nat)} {rk : List Nat} {c : Nat} {q : Nat}
theorem aEq (M : Mch S rk c) {b t : List Nat} (lb : Ltr c b) (l2 : Ltr c t) (t1 : 1 <= t.length) (tl : t.length <= 10000) (bl : b.length <= 10000) : fB [.tup [.str b, .str t], .int c] = .ok (.bl true) := by
 have h1 := M.c1
 have h3 := M.c3
 rw [zK (.str b) (.str t) c true true (by rw [xW b c (by omega) (by omega) (by omega), xV.mpr lb]) (by rw [xW t c (by omega) (by omega) (by omega), xV.mpr l2]) rfl (by simp)]
 have : t ≠ [] := fun z => by rw [z] at t1; simp at t1
 simp [this]
theorem aAj (M : Mch S rk c) {f : Nat -> Nat} (hf : ∀ n, 97 <= f n /\ (f n : Int) < 97 + c) (hq : q < S.length) (x : List Nat) (hl : x.length <= 10000) (hx : Ltr c x) (n : Nat) (h : ∀ i, i < x.length -> x.getD i 0 = f (n + i)) : bH [mD S rk c, .int (fw S f q n), .str x] = .ok (.lst (nats (seg S f q n (n + x.length + 1)))) := by
 rw [aJw M (aG4 M hf hq n) x hx (by omega), aD4 x n h, tE (s := n) (by omega), show n + x.length + 1 = n + 1 + x.length by omega]
theorem aQt {b t : List Nat} {i : Nat} (h : i < b.length) : b.getD i 0 = lt b t (0 + i) := by unfold lt; rw [Nat.zero_add, if_pos h]
theorem aQu {b t : List Nat} {i : Nat} (j : Nat) (h : i < t.length) : t.getD i 0 = lt b t (b.length + j * t.length + i) := by
 rw [show b.length + j * t.length + i = b.length + i + j * t.length by omega, aBt (by omega), <- aUh h]
 unfold lt
 rw [if_neg (by omega), show b.length + i - b.length = i by omega]
theorem aHp (M : Mch S rk c) (hq : q < S.length) {b t : List Nat} (lb : Ltr c b) (l2 : Ltr c t) (t1 : 1 <= t.length) (tl : t.length <= 10000) (bl : b.length <= 10000) : ∃ i J, i < J /\ J <= S.length /\ fw S (lt b t) q (b.length + i * t.length) = fw S (lt b t) q (b.length + J * t.length) /\ (∀ j, j < J -> ∀ i, i < j -> fw S (lt b t) q (b.length + i * t.length) ≠ fw S (lt b t) q (b.length + j * t.length)) /\
  ∃ (rs0 rsJ ksJ vsJ : List D) (gJ : Nat), bH [mD S rk c, .int q, .str b] = .ok (.lst rs0) /\
   gP fY jD 100000 [some (.v (mD S rk c)), some (.v (.tup [.str b, .str t])), some (.v (.int q)), some (.o .l rs0), some (.o (.d false []) []), none] = .ok (.nx [some (.v (mD S rk c)), some (.v (.tup [.str b, .str t])), some (.v (.int q)), some (.o .l rsJ), some (.o (.d false ksJ) vsJ), none]) /\
   atI rsJ (-1) = some (.int gJ) /\ qF ksJ vsJ (.int gJ) = some (.int ((b.length + i * t.length : Nat) : Int)) /\ cut rsJ none (some ((b.length + i * t.length : Nat) : Int)) = nats (seg S (lt b t) q 0 (b.length + i * t.length)) /\
   cut rsJ (some ((b.length + i * t.length : Nat) : Int)) (some (-1)) = nats (seg S (lt b t) q (b.length + i * t.length) (b.length + J * t.length)) := by
 have hf := aEp lb l2 t1
 have h8 := M.most
 generalize hg : (fun i => fw S (lt b t) q (b.length + i * t.length)) = g
 obtain ⟨J, hJ, ⟨i, hi, e⟩, hn⟩ := aD2 g S.length (fun i => by rw [<- hg]; exact aG4 M hf hq _)
 have hg' : ∀ i, fw S (lt b t) q (b.length + i * t.length) = g i := fun i => by rw [<- hg]
 refine ⟨i, J, hi, hJ, by rw [hg', hg', e], fun j hj i hi => by rw [hg', hg']; exact hn j hj i hi, ?_⟩
 have hK : ∀ i j, eqK (.int (g i)) (.int (g j)) = decide (g i = g j) := fun i j => by
  rw [Bool.eq_iff_iff]; unfold eqK; simp; omega
 have hJt : J * t.length <= 8 * 10000 := Nat.mul_le_mul (by omega) tl
 obtain ⟨ks, hks⟩ : ∃ ks : Nat -> List D, ∀ j, ks j = (List.range j).map fun i => D.int (g i) := ⟨_, fun _ => rfl⟩
 obtain ⟨vs, hvs⟩ : ∃ vs : Nat -> List D, ∀ j, vs j = (List.range j).map fun i => D.int ((b.length + i * t.length : Nat) : Int) := ⟨_, fun _ => rfl⟩
 have hvl : ∀ j, (vs j).length = j := fun j => by rw [hvs]; simp
 obtain ⟨rs, hrs⟩ : ∃ rs : Nat -> List D, ∀ j, rs j = nats (seg S (lt b t) q 0 (b.length + j * t.length + 1)) := ⟨_, fun _ => rfl⟩
 have hrl : ∀ j, ((rs j).length : Int) - 1 = ((b.length + j * t.length : Nat) : Int) := fun j => by rw [hrs, bW, tH]; omega
 have hlast : ∀ j, atI (rs j) (-1) = some (.int (g j)) := fun j => by
  rw [<- hg', hrs]; exact atI_last (aHo (aJz (by omega)))
 have hgo : ∀ j, j < J -> fY [some (.v (mD S rk c)), some (.v (.tup [.str b, .str t])), some (.v (.int q)), some (.o .l (rs j)), some (.o (.d false (ks j)) (vs j)), none] = .ok (.bl true) /\ jD [some (.v (mD S rk c)), some (.v (.tup [.str b, .str t])), some (.v (.int q)), some (.o .l (rs j)), some (.o (.d false (ks j)) (vs j)), none] = .ok (.nx [some (.v (mD S rk c)), some (.v (.tup [.str b, .str t])), some (.v (.int q)), some (.o .l (rs (j + 1))), some (.o (.d false (ks (j + 1))) (vs (j + 1))), none]) := fun j hj => by
  have hno := aMr (K := fun i => .int (g i)) hK (j := j) (m := j) (fun i hi => hn j hj i hi)
  have hjt : j * t.length <= 8 * 10000 := Nat.le_trans (Nat.mul_le_mul_right _ (by omega)) hJt
  rw [<- hks] at hno
  have hl : e2 dIx (dM 3) (e1 wB (eC (.int 1))) [some (.v (mD S rk c)), some (.v (.tup [.str b, .str t])), some (.v (.int q)), some (.o .l (rs j)), some (.o (.d false (ks j)) (vs j)), none] = .ok (.int (g j)) := bK rfl rfl (iZ (hlast j))
  refine ⟨bK hl rfl (by
   show aH (keyOk false (.int (g j)) = true) (R.ok (D.bl (!kO (ks j) (.int (g j))))) = _
   rw [aG (c := keyOk false (.int (g j)) = true) rfl, hno]
   rfl), ?_⟩
  ·have hal := aAj M hf hq t tl l2 (b.length + j * t.length) (fun i hi => aQu j hi)
   rw [hg'] at hal
   have p1 : nY (ks j) (.int (g j)) = ks (j + 1) := by
    unfold nY
    rw [if_neg (by rw [hno]; decide), hks, hks]
    exact aD5 (fun i => D.int (g i)) j
   have p2 : qL (ks j) (vs j) (.int (g j)) (.int ((b.length + j * t.length : Nat) : Int)) = vs (j + 1) := by
    unfold qL
    rw [if_neg (by rw [hno]; decide), hvs, hvs]
    exact aD5 (fun i => D.int ((b.length + i * t.length : Nat) : Int)) j
   refine bI (st' := [some (.v (mD S rk c)), some (.v (.tup [.str b, .str t])), some (.v (.int q)), some (.o .l (rs j)), some (.o (.d false (ks (j + 1))) (vs (j + 1))), none]) ?_ ?_
   ·have hs : e2 aJ8 (e1 fJ (dM 3)) (eC (.int 1)) [some (.v (mD S rk c)), some (.v (.tup [.str b, .str t])), some (.v (.int q)), some (.o .l (rs j)), some (.o (.d false (ks j)) (vs j)), none] = .ok (.int ((b.length + j * t.length : Nat) : Int)) := by
     rw [<- hrl j]
     exact bK rfl rfl rfl
    unfold sDPut
    rw [hs, aO, hl, aO, <- p1, <- p2]
    exact aG ⟨rfl, aQ (by rw [hvl]; omega)⟩
   ·have hm : pB "Machine" "rooms_along" bH [] (aB 0) (aC (e2 dIx (dM 3) (e1 wB (eC (.int 1)))) (aC (e2 dIx (aB 1) (eC (.int 1))) bJ)) [some (.v (mD S rk c)), some (.v (.tup [.str b, .str t])), some (.v (.int q)), some (.o .l (rs j)), some (.o (.d false (ks (j + 1))) (vs (j + 1))), none] = .ok (.lst (nats (seg S (lt b t) q (b.length + j * t.length) (b.length + j * t.length + t.length + 1)))) := by
     rw [yE (xs := [.int (g j), .str t]) rfl (bT (bK rfl rfl (iZ (hlast j))) (bT (bK rfl rfl rfl) rfl)) (by decide)]
     exact hal
    have hc : cut (nats (seg S (lt b t) q (b.length + j * t.length) (b.length + j * t.length + t.length + 1))) (some 1) none = nats (seg S (lt b t) q (b.length + j * t.length + 1) (b.length + j * t.length + t.length + 1)) := by
     rw [tE (by omega)]; exact aK2 _ _
    have hr1 : rs (j + 1) = rs j ++ nats (seg S (lt b t) q (b.length + j * t.length + 1) (b.length + j * t.length + t.length + 1)) := by
     rw [hrs, hrs, tK, wR (by omega) (by omega), show b.length + (j + 1) * t.length + 1 = b.length + j * t.length + t.length + 1 by rw [Nat.succ_mul]; omega]
    have hlen : (rs j).length + (nats (seg S (lt b t) q (b.length + j * t.length + 1) (b.length + j * t.length + t.length + 1))).length <= big := aM (by
     have := hrl j
     rw [bW, tH]
     omega)
    rw [hr1]
    refine aQo ?_ rfl hlen
    rw [aPz, hm, <- hc]
    rfl
 have hno := aK0 (K := fun i => .int (g i)) hK hi e
 rw [<- hks] at hno
 have hget := aK1 (K := fun i => .int (g i)) (V := fun i => D.int ((b.length + i * t.length : Nat) : Int)) hK hi e (fun a ha => by rw [<- e]; exact hn i hi a ha)
 rw [<- hks, <- hvs] at hget
 have hij : i * t.length <= J * t.length := Nat.mul_le_mul_right _ (by omega)
 obtain ⟨n, hn0⟩ : ∃ n, n = b.length + i * t.length := ⟨_, rfl⟩
 rw [<- hn0] at hget ⊢
 have hstop : fY [some (.v (mD S rk c)), some (.v (.tup [.str b, .str t])), some (.v (.int q)), some (.o .l (rs J)), some (.o (.d false (ks J)) (vs J)), none] = .ok (.bl false) := by
  refine bK (bK rfl rfl (iZ (hlast J))) rfl ?_
  show aH (keyOk false (.int (g J)) = true) (R.ok (D.bl (!kO (ks J) (.int (g J))))) = _
  rw [aG (c := keyOk false (.int (g J)) = true) rfl, hno]
  rfl
 have hw := aAi (fun j => [some (.v (mD S rk c)), some (.v (.tup [.str b, .str t])), some (.v (.int q)), some (.o .l (rs j)), some (.o (.d false (ks j)) (vs j)), none]) J hgo hstop J 100000 (Nat.le_refl _) (by omega)
 rw [Nat.sub_self] at hw
 have h0 := aAj M hf hq b bl lb 0 (fun i hi => aQt hi)
 rw [Nat.zero_add] at h0
 have hr0 : rs 0 = nats (seg S (lt b t) q 0 (b.length + 1)) := by rw [hrs, Nat.zero_mul, Nat.add_zero]
 rw [<- hr0] at h0
 have hk0 : ks 0 = [] := by rw [hks]; rfl
 have hv0 : vs 0 = [] := by rw [hvs]; rfl
 have c1 : cut (rs J) none (some (n : Int)) = nats (seg S (lt b t) q 0 (n)) := by
  rw [aQr, hrs, <- wR (s := 0) (m := n) (by omega) (by omega), <- tK, List.take_left' (by rw [bW, tH]; omega)]
 have c2 : cut (rs J) (some (n : Int)) (some (-1)) = nats (seg S (lt b t) q (n) (b.length + J * t.length)) := by
  rw [hrs, aD3 (by omega), <- wR (s := 0) (m := n) (by omega) (by omega), <- tK, <- tK]
  exact aMs _ _ _ _ (by rw [bW, tH]; omega)
 refine ⟨rs 0, rs J, ks J, vs J, g J, h0, ?_, hlast J, hget, c1, c2⟩
 rw [hk0, hv0] at hw
 exact hw
end
end Pu
namespace Pu
section
variable {S : List (List Nat)} {rk : List Nat} {c : Nat} {q : Nat}
theorem rK {α : Type} {r : R α} {a : α} (h : r = .ok a) : r.nox = .ok a := by rw [h]; rfl
theorem aD6 {m : String} {p : List D -> R D} {dv xs : List D} {f : Ex} {r : Exs} {st : PSt} {z : R D} (hf : f st = .ok (mD S rk c)) (hr : r st = .ok xs) (hm : m ∉ ["steps", "ranks", "many", "letters"]) (h : p (mD S rk c :: (xs ++ dv)) = z) : pC "Machine" m p dv f r st = z := by
 unfold pC
 rw [hf, hr]
 exact (aG ⟨rfl, hm⟩).trans h
theorem aMt (hq : q < S.length) : cN [mD S rk c, .int q] = .ok .non := by
 have hb : bN fM (aC (aB 1) (aC (e1 (iJ "Machine" "many") (aB 0)) (bJ))) [some (.v (mD S rk c)), some (.v (.int q))] = .ok (.bl true) := bZ (bT rfl (bT (yD : iJ "Machine" "many" (mD S rk c) = _) rfl)) (aAg hq)
 exact aQn rfl (qH (rK (rH hb)) rfl)
theorem aMu (M : Mch S rk c) (hq : q < S.length) {b t : List Nat} (lb : Ltr c b) (l2 : Ltr c t) (t1 : 1 <= t.length) (tl : t.length <= 10000) (bl : b.length <= 10000) : ∃ i J, i < J /\ J <= S.length /\ fw S (lt b t) q (b.length + i * t.length) = fw S (lt b t) q (b.length + J * t.length) /\ (∀ j, j < J -> ∀ i, i < j -> fw S (lt b t) q (b.length + i * t.length) ≠ fw S (lt b t) q (b.length + j * t.length)) /\
  fP [mD S rk c, .tup [.str b, .str t], .int q] = .ok (.tup [.lst (nats (seg S (lt b t) q 0 (b.length + i * t.length))), .lst (nats (seg S (lt b t) q (b.length + i * t.length) (b.length + J * t.length)))]) := by
 obtain ⟨i, J, hi, hJ, e, hn, rs0, rsJ, ksJ, vsJ, gJ, h0, hw, hlast, hget, c1, c2⟩ := aHp M hq lb l2 t1 tl bl
 refine ⟨i, J, hi, hJ, e, hn, ?_⟩
 generalize b.length + i * t.length = n at hget c1 c2 ⊢
 have he : bN fB (aC (aB 1) (aC (e1 (iJ "Machine" "letters") (aB 0)) (bJ))) [some (.v (mD S rk c)), some (.v (.tup [.str b, .str t])), some (.v (.int q)), none, none, none] = .ok (.bl true) := bZ (bT rfl (bT (aCy : iJ "Machine" "letters" (mD S rk c) = _) rfl)) (aEq M lb l2 t1 tl bl)
 have hm : pB "Machine" "rooms_along" bH [] (aB 0) (aC (aB 2) (aC (e2 dIx (aB 1) (eC (.int 0))) bJ)) [some (.v (mD S rk c)), some (.v (.tup [.str b, .str t])), some (.v (.int q)), none, none, none] = .ok (.lst rs0) := by
  rw [yE (xs := [.int q, .str b]) rfl (bT rfl (bT (bK rfl rfl rfl) rfl)) (by decide)]
  exact h0
 have hx : aHi (pC "Machine" "check_room" cN [] (aB 0) (aC (aB 2) (bJ))) [some (.v (mD S rk c)), some (.v (.tup [.str b, .str t])), some (.v (.int q)), none, none, none] = .ok (.nx [some (.v (mD S rk c)), some (.v (.tup [.str b, .str t])), some (.v (.int q)), none, none, none]) := by
  unfold aHi
  rw [aD6 rfl rfl (by decide) (aMt hq)]
  rfl
 refine gF rfl (cU hx (cU (qH (rK (rH he)) rfl) ?_))
 refine bI (st' := [some (.v (mD S rk c)), some (.v (.tup [.str b, .str t])), some (.v (.int q)), some (.o .l rs0), none, none]) (rK (aBm hm)) ?_
 refine bI (st' := [some (.v (mD S rk c)), some (.v (.tup [.str b, .str t])), some (.v (.int q)), some (.o .l rs0), some (.o (.d false []) []), none]) rfl ?_
 refine bI (rK hw) ?_
 have hl : e2 dIx (dM 3) (e1 wB (eC (.int 1))) [some (.v (mD S rk c)), some (.v (.tup [.str b, .str t])), some (.v (.int q)), some (.o .l rsJ), some (.o (.d false ksJ) vsJ), none] = .ok (.int gJ) := bK rfl rfl (iZ hlast)
 have hg : e2 dIx (dM 4) (e2 dIx (dM 3) (e1 wB (eC (.int 1)))) [some (.v (mD S rk c)), some (.v (.tup [.str b, .str t])), some (.v (.int q)), some (.o .l rsJ), some (.o (.d false ksJ) vsJ), none] = .ok (.int (n : Nat)) := bK rfl hl (by
  show aH (keyOk false (.int gJ) = true) (ofO (qF ksJ vsJ (.int gJ))) = _
  rw [aG (c := keyOk false (.int gJ) = true) rfl, hget]
  rfl)
 refine bI (st' := [some (.v (mD S rk c)), some (.v (.tup [.str b, .str t])), some (.v (.int q)), some (.o .l rsJ), some (.o (.d false ksJ) vsJ), some (.v (.int (n : Nat)))]) (rK (dF hg)) (rK (mO ?_))
 have s1 : eSl (dM 3) aA3 (qM (aB 5)) [some (.v (mD S rk c)), some (.v (.tup [.str b, .str t])), some (.v (.int q)), some (.o .l rsJ), some (.o (.d false ksJ) vsJ), some (.v (.int (n : Nat)))] = .ok (.lst (nats (seg S (lt b t) q 0 n))) := by rw [<- c1]; rfl
 have s2 : eSl (dM 3) (qM (aB 5)) (qM (e1 wB (eC (.int 1)))) [some (.v (mD S rk c)), some (.v (.tup [.str b, .str t])), some (.v (.int q)), some (.o .l rsJ), some (.o (.d false ksJ) vsJ), some (.v (.int (n : Nat)))] = .ok (.lst (nats (seg S (lt b t) q n (b.length + J * t.length)))) := by rw [<- c2]; rfl
 show R.bind (aC _ (aC _ bJ) _) _ = _
 rw [bT s1 (bT s2 rfl), aO]
 exact aG (aM (by show 2 <= _; omega))
end
end Pu
namespace Pu
section
variable {S : List (List Nat)} {rk : List Nat} {c : Nat} {q : Nat}
theorem aAk : iJ "Machine" "ranks" (mD S rk c) = .ok (.lst (nats rk)) := by unfold mD; rw [sI, aG rfl]; rfl
theorem aK3 {r : Nat} (h : r < rk.length) : atI (nats rk) (r : Int) = some (.int (rk.getD r 0)) := by
 rw [atI_nat (by rw [bW]; exact h)]
 simp [nats, List.getD_eq_getElem?_getD, List.getElem?_eq_getElem h]
def rkD (rk : List Nat) : D -> D
 | .int i => .int (rk.getD i.toNat 0)
 | d => d
theorem aQv (l : List Nat) : (nats l).map (rkD rk) = (l.map fun r => ((rk.getD r 0 : Nat) : Int)).map D.int := by
 unfold nats
 rw [List.map_map, List.map_map]
 refine List.map_congr_left fun r _ => ?_
 simp [rkD]
theorem aQw {l : List Nat} (h : l ≠ []) : aCs (.lst ((nats l).map (rkD rk))) = .ok (.int (mx rk l)) := by
 rw [aQv]
 unfold aCs
 simp only [uO, aO]
 rw [aG (by rw [List.length_map]; exact List.length_pos_iff.mpr h)]
 rfl
theorem aMv {b t : List Nat} {i J : Nat} (t1 : 1 <= t.length) (hi : i < J) (e : fw S (lt b t) q (b.length + i * t.length) = fw S (lt b t) q (b.length + J * t.length)) : Lp S (lt b t) q (b.length + i * t.length) (b.length + J * t.length) := by
 have h1 : i * t.length + (J - i) * t.length = J * t.length := by rw [<- Nat.add_mul]; congr 1; omega
 have h2 : 1 * 1 <= (J - i) * t.length := Nat.mul_le_mul (by omega) t1
 refine ⟨by omega, fun n hn => ?_, e⟩
 rw [show b.length + J * t.length - (b.length + i * t.length) = (J - i) * t.length by omega]
 exact aBt (by omega) _
end
end Pu
namespace Pu
section
variable {S : List (List Nat)} {rk : List Nat} {c : Nat} {q : Nat}
theorem aQx {op : Op2} {f g : Ex} {st : PSt} {x y z : D} (hf : f st = .ok x) (hg : g st = .ok y) (h : op x y = .ok z) : e2X op f g st = .ok z := by
 unfold e2X
 rw [hf, aO, hg]
 show (op x y).nox = _
 rw [h]
 rfl
theorem aG5 (M : Mch S rk c) (hq : q < S.length) {b t : List Nat} (lb : Ltr c b) (l2 : Ltr c t) (t1 : 1 <= t.length) (tl : t.length <= 10000) (bl : b.length <= 10000) : ∃ v, Ev S rk (lt b t) q v /\ cG [mD S rk c, .tup [.str b, .str t], .int q] = .ok (.bl v) := by
 obtain ⟨i, J, hi, hJ, e, _, hw⟩ := aMu M hq lb l2 t1 tl bl
 have L := aMv t1 hi e
 have h8 := M.most
 have hJt : J * t.length <= 8 * 10000 := Nat.mul_le_mul (by omega) tl
 have hlt := aG4 M (aEp lb l2 t1) hq
 have hlen : (seg S (lt b t) q (b.length + i * t.length) (b.length + J * t.length)).length <= 1000000 := by rw [tH]; omega
 have hin : ∀ r ∈ seg S (lt b t) q (b.length + i * t.length) (b.length + J * t.length), r < rk.length := fun r hr => by
  obtain ⟨n, _, _, rfl⟩ := wQ.mp hr
  rw [M.rks]
  exact hlt n
 have hne := aJy (S := S) (f := lt b t) (q := q) L.lt
 refine ⟨decide (mx rk (seg S (lt b t) q (b.length + i * t.length) (b.length + J * t.length)) % 2 = 0), ⟨_, _, L, rfl⟩, ?_⟩
 generalize seg S (lt b t) q (b.length + i * t.length) (b.length + J * t.length) = l at hw hlen hin hne
 have hm : e1 aCs (cD [4] (tgN 4) (itE (aB 3)) cB jE) [some (.v (mD S rk c)), some (.v (.tup [.str b, .str t])), some (.v (.int q)), some (.v (.lst (nats l))), none] = .ok (.int (mx rk l)) := by
  show R.bind (cD [4] (tgN 4) (itE (aB 3)) cB jE [some (.v (mD S rk c)), some (.v (.tup [.str b, .str t])), some (.v (.int q)), some (.v (.lst (nats l))), none]) _ = _
  rw [iM (nC rfl) (by rw [bW]; exact hlen) (kZ (rkD rk) _ fun d hd => by
   obtain ⟨r, hr, rfl⟩ := pL hd
   exact ⟨_, rfl, rfl, bK (aAk : iJ "Machine" "ranks" (mD S rk c) = _) rfl (iZ (aK3 (hin r hr)))⟩), aO]
  exact aQw hne
 exact gF rfl (bI (st' := [some (.v (mD S rk c)), some (.v (.tup [.str b, .str t])), some (.v (.int q)), some (.v (.lst (nats l))), none]) (dF (aQx (aD6 rfl rfl (by decide) hw) rfl rfl)) (rK (mO (bK (bK hm rfl (aBn (by decide))) rfl (aBo _ _)))))
end
end Pu
namespace Pu
theorem uU (x : Nat) (l : List Nat) : nats (x :: l) = .int (x : Nat) :: nats l := rfl
theorem aK4 (r : List Nat) (S : List (List Nat)) : stD (r :: S) = .lst (nats r) :: stD S := rfl
theorem nQ : ∀ l : List Nat, cF (nats l) = true /\ dD (nats l) = 0 /\ dZ (nats l) (nats l) = true
 | [] => ⟨rfl, by unfold nats; simp, by unfold nats; simp [dZ]⟩
 | x :: l => by
  obtain ⟨h1, h2, h3⟩ := nQ l
  rw [uU]
  refine ⟨by simp [h1], by simp [h2], ?_⟩
  unfold dZ
  rw [h3]
  simp
theorem aAl : ∀ S : List (List Nat), cF (stD S) = true /\ dD (stD S) <= 1 /\ dZ (stD S) (stD S) = true
 | [] => ⟨rfl, by unfold stD; simp, by unfold stD; simp [dZ]⟩
 | r :: S => by
  obtain ⟨h1, h2, h3⟩ := aAl S
  obtain ⟨k1, k2, k3⟩ := nQ r
  have kd : dep (.lst (nats r)) = 1 := by unfold dep; rw [k2]
  have ke : eqD (.lst (nats r)) (.lst (nats r)) = true := by (conv => lhs; unfold eqD); exact k3
  have kp : plain (.lst (nats r)) = true := by (conv => lhs; unfold plain); exact k1
  rw [aK4]
  refine ⟨by rw [eY, kp, h1]; rfl, by rw [pW, kd]; omega, ?_⟩
  conv => lhs; unfold dZ
  rw [ke, h3]
  rfl
theorem aG6 (l : List Nat) : dNe (.lst (nats l)) (.lst (nats l)) = .ok (.bl false) /\ dEq (.lst (nats l)) (.lst (nats l)) = .ok (.bl true) := by
 obtain ⟨k1, k2, k3⟩ := nQ l
 have kd : dep (.lst (nats l)) = 1 := by unfold dep; rw [k2]
 have ke : eqD (.lst (nats l)) (.lst (nats l)) = true := by (conv => lhs; unfold eqD); exact k3
 have kp : plain (.lst (nats l)) = true := by (conv => lhs; unfold plain); exact k1
 rw [aEi, aEh, aG ⟨by omega, kp, kp⟩, aG ⟨by omega, kp, kp⟩, ke]
 exact ⟨rfl, rfl⟩
theorem aK5 (S : List (List Nat)) : dNe (.lst (stD S)) (.lst (stD S)) = .ok (.bl false) /\ dEq (.lst (stD S)) (.lst (stD S)) = .ok (.bl true) := by
 obtain ⟨k1, k2, k3⟩ := aAl S
 have kd : dep (.lst (stD S)) <= 2 := by unfold dep; omega
 have ke : eqD (.lst (stD S)) (.lst (stD S)) = true := by (conv => lhs; unfold eqD); exact k3
 have kp : plain (.lst (stD S)) = true := by (conv => lhs; unfold plain); exact k1
 rw [aEi, aEh, aG ⟨by omega, kp, kp⟩, aG ⟨by omega, kp, kp⟩, ke]
 exact ⟨rfl, rfl⟩
end Pu
namespace Pu
def slB (u v : List Nat) : Prop := u.length < v.length \/ (u.length = v.length /\ u < v)
theorem aK6 : ∀ {u v : List Nat} (a b : Nat), u.length = v.length -> u < v -> u ++ [a] < v ++ [b]
 | [], [], _, _, _, h => absurd h (List.lt_irrefl _)
 | [], _ :: _, _, _, h, _ => by simp at h
 | _ :: _, [], _, _, h, _ => by simp at h
 | x :: u, y :: v, a, b, h, h2 => by
  rw [List.cons_append, List.cons_append, List.cons_lt_cons_iff]
  rcases List.cons_lt_cons_iff.mp h2 with h3 | ⟨h3, h4⟩
  ·exact .inl h3
  ·exact .inr ⟨h3, aK6 a b (by simpa using h) h4⟩
theorem aG7 : ∀ (u : List Nat) {a b : Nat}, a < b -> u ++ [a] < u ++ [b]
 | [], a, b, h => by
  show [a] < [b]
  rw [List.cons_lt_cons_iff]
  exact .inl h
 | x :: u, a, b, h => by
  rw [List.cons_append, List.cons_append, List.cons_lt_cons_iff]
  exact .inr ⟨rfl, aG7 u h⟩
theorem aMw {u v : List Nat} (a b : Nat) (h : slB u v) : slB (u ++ [a]) (v ++ [b]) := by
 rcases h with h | ⟨h1, h2⟩
 ·exact .inl (by rw [List.length_append, List.length_append]; simpa using h)
 ·exact .inr ⟨by rw [List.length_append, List.length_append, h1]; rfl, aK6 a b h1 h2⟩
theorem aK7 (u : List Nat) {a b : Nat} (h : a < b) : slB (u ++ [a]) (u ++ [b]) := .inr ⟨by simp, aG7 u h⟩
theorem aMx (u : List Nat) (a : Nat) : slB [] (u ++ [a]) := .inl (by simp)
theorem aAm (S : List (List Nat)) : ∀ (x : List Nat) (q ch : Nat), oA S q (x ++ [ch]) = stp S (oA S q x) (ch - 97)
 | [], _, _ => rfl
 | y :: x, q, ch => aAm S x _ ch
def bst (al : Nat -> Bool) (acc : List (Nat × List Nat)) (g : Nat) (w : List Nat) : List (Nat × List Nat) := if al g = true /\ g ∉ acc.map (·.1) then acc ++ [(g, w)] else acc
structure BM (S : List (List Nat)) (s c : Nat) (al : Nat -> Bool) (p j : Nat) (acc : List (Nat × List Nat)) : Prop where
 nd : (acc.map (·.1)).Nodup
 hd : acc[0]? = some (s, [])
 lt : ∀ x ∈ acc, x.1 < S.length /\ oA S s x.2 = x.1 /\ Ltr c x.2
 par : ∀ (k : Nat) (x : Nat × List Nat), acc[k]? = some x -> 1 <= k -> al x.1 = true /\ ∃ q y ch, acc[q]? = some y /\ x.2 = y.2 ++ [ch] /\ (q < p \/ (q = p /\ ch < 97 + j))
 ord : ∀ (i k : Nat) (x y : Nat × List Nat), acc[i]? = some x -> acc[k]? = some y -> i < k -> slB x.2 y.2
 cls : ∀ (i : Nat) (x : Nat × List Nat) (l : Nat), acc[i]? = some x -> l < c -> (i < p \/ (i = p /\ l < j)) -> al (stp S x.1 l) = true -> ∃ y ∈ acc, y.1 = stp S x.1 l /\ (y.2 = x.2 ++ [97 + l] \/ slB y.2 (x.2 ++ [97 + l]))
section
variable {S : List (List Nat)} {rk : List Nat} {s c p j : Nat} {al : Nat -> Bool} {acc : List (Nat × List Nat)}
theorem BM.start (hs : s < S.length) : BM S s c al 0 0 [(s, [])] where
 nd := by simp
 hd := rfl
 lt := fun x hx => by rw [List.mem_singleton.mp hx]; exact ⟨hs, rfl, fun _ h => nomatch h⟩
 par := fun k x e h => by
  have : k < 1 := (List.getElem?_eq_some_iff.mp e).1
  omega
 ord := fun i k x y e1 e2 h => by
  have : k < 1 := (List.getElem?_eq_some_iff.mp e2).1
  omega
 cls := fun i x l _ _ h => by omega
theorem BM.next (b : BM S s c al p c acc) : BM S s c al (p + 1) 0 acc where
 nd := b.nd
 hd := b.hd
 lt := b.lt
 par := fun k x e h => by
  obtain ⟨h0, q, y, ch, h1, h2, h3⟩ := b.par k x e h
  exact ⟨h0, q, y, ch, h1, h2, .inl (by omega)⟩
 ord := b.ord
 cls := fun i x l e hl h ha => b.cls i x l e hl (by omega) ha
theorem BM.below (b : BM S s c al p j acc) {x y : Nat × List Nat} {k : Nat} (hx : acc[p]? = some x) (hy : acc[k]? = some y) : slB y.2 (x.2 ++ [97 + j]) := by
 by_cases hk : k = 0
 ·subst hk
  rw [b.hd] at hy
  cases hy
  exact aMx _ _
 ·obtain ⟨_, q, z, ch, h1, h2, h3⟩ := b.par k y hy (by omega)
  rw [h2]
  rcases h3 with h3 | ⟨rfl, h3⟩
  ·exact aMw _ _ (b.ord q p z x h1 hx h3)
  ·rw [hx] at h1
   cases h1
   exact aK7 _ h3
theorem BM.turn (M : Mch S rk c) (b : BM S s c al p j acc) {x : Nat × List Nat} (hx : acc[p]? = some x) (hj : j < c) : BM S s c al p (j + 1) (bst al acc (stp S x.1 j) (x.2 ++ [97 + j])) := by
 have hxm : x ∈ acc := List.mem_of_getElem? hx
 obtain ⟨x1, x2, x3⟩ := b.lt x hxm
 have hg : stp S x.1 j < S.length := by obtain ⟨_, _, _, h⟩ := aBp M x1 hj; exact h
 unfold bst
 by_cases hc : al (stp S x.1 j) = true /\ stp S x.1 j ∉ acc.map (·.1)
 ·rw [if_pos hc]
  have old : ∀ {k : Nat} {y : Nat × List Nat}, acc[k]? = some y -> (acc ++ [(stp S x.1 j, x.2 ++ [97 + j])])[k]? = some y := fun {k y} e => by
   rw [List.getElem?_append_left (List.getElem?_eq_some_iff.mp e).1]; exact e
  have inv : ∀ {k : Nat} {y : Nat × List Nat}, (acc ++ [(stp S x.1 j, x.2 ++ [97 + j])])[k]? = some y -> acc[k]? = some y \/ (k = acc.length /\ y = (stp S x.1 j, x.2 ++ [97 + j])) := fun {k y} e => by
   by_cases hk : k < acc.length
   ·rw [List.getElem?_append_left hk] at e; exact .inl e
   ·have hlt := (List.getElem?_eq_some_iff.mp e).1
    rw [List.length_append, List.length_singleton] at hlt
    have : k = acc.length := by omega
    subst this
    rw [List.getElem?_append_right (Nat.le_refl _), Nat.sub_self] at e
    simp at e
    exact .inr ⟨rfl, e.symm⟩
  have lt_of : ∀ {k : Nat} {y : Nat × List Nat}, acc[k]? = some y -> k < acc.length := fun e => (List.getElem?_eq_some_iff.mp e).1
  refine ⟨?_, old b.hd, fun y hy => ?_, fun k y e h => ?_, fun i k y z e1 e2 h => ?_, fun i y l e hl h ha => ?_⟩
  ·rw [List.map_append, List.nodup_append]
   refine ⟨b.nd, by simp, fun a ha b' hb => ?_⟩
   rw [List.map_singleton, List.mem_singleton] at hb
   rw [hb]
   show a ≠ stp S x.1 j
   exact fun z => hc.2 (by rw [<- z]; exact ha)
  ·rcases List.mem_append.mp hy with hy | hy
   ·exact b.lt y hy
   ·rw [List.mem_singleton.mp hy]
    refine ⟨hg, ?_, fun ch hch => ?_⟩
    ·show oA S s (x.2 ++ [97 + j]) = _
     rw [aAm, x2, show 97 + j - 97 = j by omega]
    ·rcases List.mem_append.mp hch with h | h
     ·exact x3 ch h
     ·rw [List.mem_singleton.mp h]
      constructor <;> omega
  ·rcases inv e with e | ⟨rfl, rfl⟩
   ·obtain ⟨h0, q, z, ch, h1, h2, h3⟩ := b.par k y e h
    exact ⟨h0, q, z, ch, old h1, h2, h3.imp id fun h => ⟨h.1, by omega⟩⟩
   ·exact ⟨hc.1, p, x, 97 + j, old hx, rfl, .inr ⟨rfl, by omega⟩⟩
  ·rcases inv e2 with e2 | ⟨rfl, rfl⟩
   ·rcases inv e1 with e1 | ⟨rfl, _⟩
    ·exact b.ord i k y z e1 e2 h
    ·have := lt_of e2
     omega
   ·rcases inv e1 with e1 | ⟨rfl, _⟩
    ·exact b.below hx e1
    ·omega
  ·rcases inv e with e' | ⟨rfl, rfl⟩
   ·by_cases hip : i = p /\ l = j
    ·obtain ⟨rfl, rfl⟩ := hip
     rw [hx] at e'
     cases e'
     exact ⟨_, List.mem_append_right _ (List.mem_singleton.mpr rfl), rfl, .inl rfl⟩
    ·obtain ⟨z, h1, h2⟩ := b.cls i y l e' hl (by omega) ha
     exact ⟨z, List.mem_append_left _ h1, h2⟩
   ·have := lt_of hx
    omega
 ·rw [if_neg hc]
  refine ⟨b.nd, b.hd, b.lt, fun k y e h => ?_, b.ord, fun i y l e hl h ha => ?_⟩
  ·obtain ⟨h0, q, z, ch, h1, h2, h3⟩ := b.par k y e h
   exact ⟨h0, q, z, ch, h1, h2, h3.imp id fun h => ⟨h.1, by omega⟩⟩
  ·by_cases hip : i = p /\ l = j
   ·obtain ⟨rfl, rfl⟩ := hip
    rw [hx] at e
    cases e
    have hm : stp S x.1 l ∈ acc.map (·.1) := Classical.byContradiction fun z => hc ⟨ha, z⟩
    obtain ⟨y, hy, ey⟩ := List.mem_map.mp hm
    obtain ⟨k, hk⟩ := List.mem_iff_getElem?.mp hy
    exact ⟨y, hy, ey, .inr (b.below hx hk)⟩
   ·exact b.cls i y l e hl (by omega) ha
theorem BM.len (b : BM S s c al p j acc) : acc.length <= S.length := by
 have h := b.nd
 have hsub : ∀ x ∈ acc.map (·.1), x ∈ List.range S.length := fun x hx => by
  obtain ⟨y, hy, rfl⟩ := List.mem_map.mp hx
  exact List.mem_range.mpr (b.lt y hy).1
 have := aD0 S.length (acc.map (·.1)) h fun x hx => List.mem_range.mp (hsub x hx)
 rwa [List.length_map] at this
def kD (acc : List (Nat × List Nat)) : List D := acc.map fun x => D.int (x.1 : Nat)
theorem aBu (acc : List (Nat × List Nat)) : (kD acc).length = acc.length := by unfold kD; simp
theorem aEr (acc : List (Nat × List Nat)) (g : Nat) (w : List Nat) : kD (acc ++ [(g, w)]) = kD acc ++ [.int g] := by unfold kD; simp
theorem aUi {k : Nat} {x : Nat × List Nat} (h : acc[k]? = some x) : atI (kD acc) (k : Int) = some (.int x.1) := by
 have hk := (List.getElem?_eq_some_iff.mp h).1
 rw [atI_nat (by rw [aBu]; exact hk)]
 unfold kD
 rw [List.getElem_map, (List.getElem?_eq_some_iff.mp h).2]
theorem aQy {g : Nat} {w : List Nat} {k : Nat} {x : Nat × List Nat} (h : acc[k]? = some x) : (bst al acc g w)[k]? = some x := by
 unfold bst
 split
 ·rw [List.getElem?_append_left (List.getElem?_eq_some_iff.mp h).1]; exact h
 ·exact h
theorem aBv (g : Nat) (acc : List (Nat × List Nat)) : kO (kD acc) (.int g) = decide (g ∈ acc.map (·.1)) := by
 unfold kO kD
 rw [List.any_map]
 by_cases h : g ∈ acc.map (·.1)
 ·rw [decide_eq_true h, List.any_eq_true]
  obtain ⟨x, hx, e⟩ := List.mem_map.mp h
  exact ⟨x, hx, by simp [eqK, e]⟩
 ·rw [decide_eq_false h, List.any_eq_false]
  intro x hx
  have : ¬ (x.1 : Int) = (g : Int) := fun z => h (List.mem_map.mpr ⟨x, hx, by omega⟩)
  simp [eqK, this]
end
end Pu
namespace Pu
def wD (acc : List (Nat × List Nat)) : List D := acc.map fun x => D.str x.2
theorem aK8 {acc : List (Nat × List Nat)} (nd : (acc.map (·.1)).Nodup) {x : Nat × List Nat} (hx : x ∈ acc) : qF (kD acc) (wD acc) (.int x.1) = some (.str x.2) := by
 unfold qF kD wD
 rw [List.zip_map', List.find?_map]
 have : acc.find? ((fun p : D × D => eqK p.1 (.int x.1)) ∘ fun a => (D.int (a.1 : Nat), D.str a.2)) = some x := by
  induction acc with
  | nil => cases hx
  | cons y acc ih =>
   rw [List.find?_cons]
   rw [List.map_cons, List.nodup_cons] at nd
   rcases List.mem_cons.mp hx with rfl | hx
   ·simp [eqK]
   ·have : ¬ (y.1 : Int) = (x.1 : Int) := fun z => nd.1 (List.mem_map.mpr ⟨x, hx, by omega⟩)
    simp only [Function.comp, eqK, beq_eq_false_iff_ne.mpr this]
    exact ih nd.2 hx
 rw [this]
 rfl
section
variable {S : List (List Nat)} {rk : List Nat} {s c p j : Nat} {al : Nat -> Bool} {acc : List (Nat × List Nat)}
theorem BM.wlen (b : BM S s c al p j acc) : ∀ (k : Nat) (x : Nat × List Nat), acc[k]? = some x -> x.2.length <= k := by
 intro k
 induction k using Nat.strongRecOn with
 | ind k ih =>
  intro x hx
  by_cases hk : k = 0
  ·subst hk
   rw [b.hd] at hx
   cases hx
   exact Nat.le_refl _
  ·obtain ⟨_, q, y, ch, h1, h2, _⟩ := b.par k x hx (by omega)
   have hl : x.2.length = y.2.length + 1 := by rw [h2]; simp
   have hq : q < k := by
    rcases Nat.lt_trichotomy q k with h | h | h
    ·exact h
    ·subst h
     rw [hx] at h1
     cases h1
     omega
    ·rcases b.ord k q x y hx h1 h with h3 | ⟨h3, _⟩ <;> omega
   have := ih q hq y h1
   omega
def wst (S : List (List Nat)) (s : Nat) (als : List Nat) (acc : List (Nat × List Nat)) (p : Nat) (x6 x7 x8 : Option Sl) : PSt :=
 [some (.v (.lst (stD S))), some (.v (.int s)), some (.v (.lst (nats als))), some (.o (.d false (kD acc)) (wD acc)), some (.o .l (kD acc)), some (.v (.int p)), x6, x7, x8]
theorem aK9 (acc : List (Nat × List Nat)) : (wD acc).length = acc.length := by unfold wD; simp
theorem aKa (acc : List (Nat × List Nat)) (g : Nat) (w : List Nat) : wD (acc ++ [(g, w)]) = wD acc ++ [.str w] := by unfold wD; simp
theorem aHq (M : Mch S rk c) (als : List Nat) (b : BM S s c (fun g => decide (g ∈ als)) p j acc) {x : Nat × List Nat} (hx : acc[p]? = some x) (ch g : Nat) :
  jO (wst S s als acc p (some (.v (.int x.1))) (some (.v (.str [ch]))) (some (.v (.int g)))) = .ok (.nx (wst S s als (bst (fun g => decide (g ∈ als)) acc g (x.2 ++ [ch])) p (some (.v (.int x.1))) (some (.v (.str [ch]))) (some (.v (.int g))))) := by
 have n8 := M.most
 have hlen := b.len
 have hw := b.wlen p x hx
 have hp : p < acc.length := (List.getElem?_eq_some_iff.mp hx).1
 obtain ⟨p1, p2, _⟩ := nQ als
 have t1 : e2 dIn (aB 8) (aB 2) (wst S s als acc p (some (.v (.int x.1))) (some (.v (.str [ch]))) (some (.v (.int g)))) = .ok (.bl (decide (g ∈ als))) := bK rfl rfl (by rw [<- aMn]; exact aG ⟨by rw [p2]; decide, rfl, p1⟩)
 have t2 : e2 lC (aB 8) (dM 3) (wst S s als acc p (some (.v (.int x.1))) (some (.v (.str [ch]))) (some (.v (.int g)))) = .ok (.bl (!decide (g ∈ acc.map (·.1)))) := bK rfl rfl (by rw [<- aBv]; exact aG rfl)
 have t := aEk t1 fun _ => t2
 unfold bst
 by_cases h : decide (g ∈ als) = true /\ g ∉ acc.map (·.1)
 ·rw [if_pos h]
  rw [h.1, decide_eq_false h.2] at t
  have hk : kO (kD acc) (.int g) = false := by rw [aBv, decide_eq_false h.2]
  have ek : nY (kD acc) (.int g) = kD (acc ++ [(g, x.2 ++ [ch])]) := by
   unfold nY
   rw [hk, aEr]
   rfl
  have ev : qL (kD acc) (wD acc) (.int g) (.str (x.2 ++ [ch])) = wD (acc ++ [(g, x.2 ++ [ch])]) := by
   unfold qL
   rw [hk, aKa]
   rfl
  refine aJp t (bI (st' := [some (.v (.lst (stD S))), some (.v (.int s)), some (.v (.lst (nats als))), some (.o (.d false (kD (acc ++ [(g, x.2 ++ [ch])]))) (wD (acc ++ [(g, x.2 ++ [ch])]))), some (.o .l (kD acc)), some (.v (.int p)), some (.v (.int x.1)), some (.v (.str [ch])), some (.v (.int g))]) ?_ ?_)
  ·have e : e2 iW (e2 dIx (dM 3) (aB 6)) (aB 7) (wst S s als acc p (some (.v (.int x.1))) (some (.v (.str [ch]))) (some (.v (.int g)))) = .ok (.str (x.2 ++ [ch])) := by
    refine bK (x := .str x.2) (y := .str [ch]) (bK rfl rfl ?_) rfl (aG (aM (by show x.2.length + 1 <= _; omega)))
    show aH (keyOk false (.int x.1) = true) (ofO (qF (kD acc) (wD acc) (.int x.1))) = _
    rw [aG (c := keyOk false (.int x.1) = true) rfl, aK8 b.nd (List.mem_of_getElem? hx)]
    rfl
   unfold sDPut
   rw [e, <- ek, <- ev]
   exact aG ⟨rfl, aQ (by rw [aK9]; omega)⟩
  ·rw [aJr (xs := kD acc) (d := .int g) rfl rfl (by rw [aBu]; omega), <- aEr acc g (x.2 ++ [ch])]
   rfl
 ·rw [if_neg h]
  refine qH (vO t ?_) rfl
  cases h1 : decide (g ∈ als) with
  | false => rfl
  | true => rw [decide_eq_true (Classical.byContradiction fun z => h ⟨h1, z⟩)]; rfl
theorem yG (M : Mch S rk c) (als : List Nat) : ∀ (m j : Nat) (acc : List (Nat × List Nat)) (x7 x8 : Option Sl) (x : Nat × List Nat), j + m = c -> BM S s c (fun g => decide (g ∈ als)) p j acc -> acc[p]? = some x ->
  ∃ acc' x7' x8', forR (tgT [7, 8]) jO ((List.range' j m).map fun l => D.tup [.str [97 + l], .int (stp S x.1 l)]) (wst S s als acc p (some (.v (.int x.1))) x7 x8) = .ok (.nx (wst S s als acc' p (some (.v (.int x.1))) x7' x8')) /\ BM S s c (fun g => decide (g ∈ als)) p c acc' /\ acc'[p]? = some x
 | 0, j, acc, x7, x8, x, hj, b, hx => ⟨acc, x7, x8, rfl, by rw [show c = j by omega] at b ⊢; exact b, hx⟩
 | m + 1, j, acc, x7, x8, x, hj, b, hx => by
  obtain ⟨acc', x7', x8', e, b', hx'⟩ := yG M als m (j + 1) _ (some (.v (.str [97 + j]))) (some (.v (.int (stp S x.1 j)))) x (by omega) (b.turn M hx (by omega)) (aQy hx)
  refine ⟨acc', x7', x8', ?_, b', hx'⟩
  rw [List.range'_succ, List.map_cons, nA]
  show (jO (wst S s als acc p (some (.v (.int x.1))) (some (.v (.str [97 + j]))) (some (.v (.int (stp S x.1 j)))))).bind _ = _
  rw [aHq M als b hx]
  exact e
theorem aMy (M : Mch S rk c) {h : Nat} (hh : h < S.length) : sU [97, 98, 99] (nats S[h]) = (List.range' 0 c).map fun l => D.tup [.str [97 + l], .int (stp S h l)] := by
 have hr := (M.row S[h] (List.getElem_mem hh)).1
 have e : ∀ l, stp S h l = S[h].getD l 0 := fun l => by simp [stp, List.getD_eq_getElem?_getD, List.getElem?_eq_getElem hh]
 have h1 := M.c1
 have h3 := M.c3
 simp only [e]
 generalize S[h] = r at hr
 match r, hr with
 | [], hr => simp at hr; omega
 | [a], hr => subst hr; rfl
 | [a, b], hr => subst hr; rfl
 | [a, b, d], hr => subst hr; rfl
 | _ :: _ :: _ :: _ :: r, hr => simp at hr; omega
theorem yH (M : Mch S rk c) (als : List Nat) : ∀ (m p : Nat) (acc : List (Nat × List Nat)) (x6 x7 x8 : Option Sl) (f : Nat), S.length + 1 <= m + p -> m <= f -> BM S s c (fun g => decide (g ∈ als)) p 0 acc -> p <= acc.length ->
  ∃ acc' x6' x7' x8', gP mH qQ f (wst S s als acc p x6 x7 x8) = .ok (.nx (wst S s als acc' acc'.length x6' x7' x8')) /\ BM S s c (fun g => decide (g ∈ als)) acc'.length 0 acc'
 | 0, p, acc, x6, x7, x8, f, hm, hf, b, hp => by have := b.len; omega
 | m + 1, p, acc, x6, x7, x8, f, hm, hf, b, hp => by
  obtain ⟨f, rfl⟩ : ∃ g, f = g + 1 := ⟨f - 1, by omega⟩
  have test : mH (wst S s als acc p x6 x7 x8) = .ok (.bl (decide ((p : Int) < ((kD acc).length : Nat)))) := bK rfl rfl rfl
  rw [aBu] at test
  by_cases h : p < acc.length
  ·have hx : acc[p]? = some acc[p] := List.getElem?_eq_getElem h
   generalize acc[p] = x at hx
   obtain ⟨l1, _, _⟩ := b.lt x (List.mem_of_getElem? hx)
   obtain ⟨acc', x7', x8', e, b', hx'⟩ := yG M als c 0 acc x7 x8 x (by omega) b hx
   have hp' : p < acc'.length := (List.getElem?_eq_some_iff.mp hx').1
   obtain ⟨acc2, y6, y7, y8, ew, b3⟩ := yH M als m (p + 1) acc' (some (.v (.int x.1))) x7' x8' f (by omega) (by omega) b'.next (by omega)
   refine ⟨acc2, y6, y7, y8, aJs (vO test (aXc h)) (st' := wst S s als acc' (p + 1) (some (.v (.int x.1))) x7' x8') ?_ ew, b3⟩
   refine bI (st' := wst S s als acc p (some (.v (.int x.1))) x7 x8) (dF (bK rfl rfl (iZ (aUi hx)))) (bI (st' := wst S s als acc' p (some (.v (.int x.1))) x7' x8') (rJ (xs := sU [97, 98, 99] (nats S[x.1])) ?_ ?_) (dF rfl))
   ·show ((e2 dIx (aB 0) (aB 6)) (wst S s als acc p (some (.v (.int x.1))) x7 x8)).bind _ = _
    rw [bK (rfl : aB 0 (wst S s als acc p (some (.v (.int x.1))) x7 x8) = .ok (.lst (stD S))) rfl (iZ (aBr l1))]
    rfl
   ·rw [aMy M l1]
    exact e
  ·have : p = acc.length := by omega
   subst this
   exact ⟨acc, x6, x7, x8, aHl (vO test (aXd h)), b⟩
theorem aMz (M : Mch S rk c) {s : Nat} (hs : s < S.length) (als : List Nat) : ∃ acc, lQ [.lst (stD S), .int s, .lst (nats als)] = .ok (.dct false (kD acc) (wD acc)) /\ BM S s c (fun g => decide (g ∈ als)) acc.length 0 acc := by
 have n8 := M.most
 obtain ⟨acc, x6, x7, x8, e, b⟩ := yH M als (S.length + 1) 0 [(s, [])] none none none 100000 (by omega) (by omega) (BM.start hs) (by simp)
 refine ⟨acc, gF rfl ?_, b⟩
 unfold pG
 refine bI (st' := [some (.v (.lst (stD S))), some (.v (.int s)), some (.v (.lst (nats als))), some (.o (.d false (kD [(s, [])])) (wD [(s, [])])), none, none, none, none, none]) (by simp [aEj, aJ9, atom, kD, wD]) ?_
 refine bI (st' := [some (.v (.lst (stD S))), some (.v (.int s)), some (.v (.lst (nats als))), some (.o (.d false (kD [(s, [])])) (wD [(s, [])])), some (.o .l (kD [(s, [])])), none, none, none, none]) (by simp [kD]) ?_
 refine bI (st' := wst S s als [(s, [])] 0 none none none) (by simp [wst]) ?_
 refine bI (st' := wst S s als acc acc.length x6 x7 x8) (by rw [aHj]; exact e) ?_
 simp [wst, ofK]
end
end Pu
namespace Pu
def prD (acc : List (Nat × List Nat)) : List D := acc.map fun x => D.tup [.int (x.1 : Nat), .str x.2]
theorem aKb : ∀ acc : List (Nat × List Nat), List.zipWith (fun k d => D.tup [k, d]) (kD acc) (wD acc) = prD acc
 | [] => rfl
 | x :: l => congrArg (D.tup [.int (x.1 : Nat), .str x.2] :: ·) (aKb l)
theorem wU (acc : List (Nat × List Nat)) : (prD acc).length = acc.length := by unfold prD; rw [List.length_map]
section
variable {S : List (List Nat)} {rk : List Nat} {c : Nat} {acc : List (Nat × List Nat)}
abbrev lN (S : List (List Nat)) (c : Nat) (acc : List (Nat × List Nat)) : Prop := BM S 0 c (fun g => decide (g ∈ List.range S.length)) acc.length 0 acc
theorem aEs (M : Mch S rk c) : ∃ acc, cM [mD S rk c] = .ok (.lst (prD acc)) /\ lN S c acc := by
 have n8 := M.most
 obtain ⟨acc, e, b⟩ := aMz M (show 0 < S.length from M.one) (List.range S.length)
 have hl := b.len
 refine ⟨acc, gF rfl ?_, b⟩
 have h1 : fW [some (.v (mD S rk c)), none] = .ok (.nx [some (.v (mD S rk c)), some (.v (.dct false (kD acc) (wD acc)))]) := by
  refine bI (st' := [some (.v (mD S rk c)), some (.v (.dct false (kD acc) (wD acc)))]) (dF (bZ (bT (show iJ "Machine" "steps" (mD S rk c) = _ from uT) (bT rfl (bT (d := .lst (nats (List.range S.length))) ?_ rfl))) e)) rfl
  show R.bind (iJ "Machine" "many" (mD S rk c)) aBj = _
  rw [yD, aO, <- (show dR 0 S.length = nats (List.range S.length) by rw [vN]; rfl)]
  exact aG ⟨aK (by omega), aL (by omega)⟩
 show sV fW (e1 xT (aB 1)) [some (.v (mD S rk c)), none] = _
 unfold sV
 rw [h1]
 show R.bind (aH ((kD acc).length <= big) (.ok (D.lst (List.zipWith (fun k d => D.tup [k, d]) (kD acc) (wD acc))))) _ = _
 rw [aG (aM (by rw [aBu]; omega)), aKb]
 rfl
theorem vR (M : Mch S rk c) (x2 : Option Sl) : ∀ (x : List Nat) (q : Nat) (l : Option Sl), q < S.length -> Ltr c x -> ∃ l', forR (tgN 3) nZ (x.map fun ch => D.str [ch]) [some (.v (.lst (stD S))), some (.v (.int q)), x2, l] = .ok (.nx [some (.v (.lst (stD S))), some (.v (.int (oA S q x))), x2, l'])
 | [], q, l, _, _ => ⟨l, rfl⟩
 | ch :: x, q, l, hq, hx => by
  obtain ⟨h1, h2⟩ := hx ch (.head _)
  obtain ⟨r, f1, f2, f3⟩ := aBq M hq h1 h2
  obtain ⟨l', e⟩ := vR M x2 x (stp S q (ch - 97)) (some (.v (.str [ch]))) f3 fun y hy => hx y (.tail _ hy)
  have mt : eMt uN (eC (.str [97, 98, 99])) (aC (aB 3) bJ) [some (.v (.lst (stD S))), some (.v (.int q)), x2, some (.v (.str [ch]))] = .ok (.int ((ch - 97 : Nat) : Int)) := by
   show (ofO (fC [97, 98, 99] [ch] 0)).bind _ = _
   rw [aCz M.c3 h1 h2]
   rfl
  exact ⟨l', aEn rfl (dF (bK (bK rfl rfl (iZ f1)) mt (iZ f2))) e⟩
theorem aHr (M : Mch S rk c) {q : Nat} (hq : q < S.length) (x : List Nat) (hx : Ltr c x) (hl : x.length <= 10000) : jP [.lst (stD S), .int q, .str x] = .ok (.int (oA S q x)) := by
 obtain ⟨l', e⟩ := vR M (some (.v (.str x))) x q none hq hx
 refine gF rfl (bI (rJ ?_ e) (mO rfl))
 exact aG (aM (by omega))
theorem aAn (u : List Nat) (hu : u.length <= 10000) {i : Nat} {st : PSt} (h : aB i st = .ok (.str u)) : aBe (aC (e1 fJ (aB i)) (aC (aB i) bJ)) st = .ok (.tup [.int u.length, .str u]) := by
 have e : e1 fJ (aB i) st = .ok (.int u.length) := by
  show (aB i st).bind fJ = _
  rw [h]
  exact aG (aM (by omega))
 show R.bind (aC (e1 fJ (aB i)) (aC (aB i) bJ) st) _ = _
 rw [bT e (bT h rfl), aO]
 exact aG (aM (by show 2 <= _; omega))
theorem aAo {u v : List Nat} (hu : u.length <= 10000) (hv : v.length <= 10000) (h : u = v \/ slB u v) : iK [.str u, .str v] = .ok (.bl true) := by
 refine gF rfl (mO (bK (aAn u hu rfl) (aAn v hv rfl) ?_))
 show aH _ _ = _
 rw [aG ⟨by simp [dD, dep], rfl, rfl⟩]
 have e : aCv [.int u.length, .str u] [.int v.length, .str v] = .ok true := by
  unfold aCv
  by_cases hl : u.length = v.length
  ·rw [if_pos (by rw [hl]; simp [eqD])]
   unfold aCv
   by_cases huv : u = v
   ·rw [if_pos (by rw [huv]; simp [eqD])]
    rfl
   ·rw [if_neg (by simpa [eqD] using huv)]
    rcases h with h | h | ⟨_, h⟩
    ·exact absurd h huv
    ·omega
    ·show R.ok (!decide (v < u)) = _
     rw [decide_eq_false fun z => List.lt_irrefl u (List.lt_trans h z)]
     rfl
  ·rw [if_neg (by simp [eqD]; omega)]
   have hlt : u.length <= v.length := by
    rcases h with h | h | ⟨h, _⟩
    ·rw [h]; exact Nat.le_refl _
    ·omega
    ·omega
   show R.ok (decide ((u.length : Int) <= v.length)) = _
   rw [decide_eq_true (by omega)]
 rw [e]
 rfl
theorem lN.wl (M : Mch S rk c) (b : lN S c acc) {x : Nat × List Nat} (hx : x ∈ acc) : x.2.length <= 8 := by
 obtain ⟨k, hk⟩ := List.mem_iff_getElem?.mp hx
 have h1 := b.wlen k x hk
 have h2 := (List.getElem?_eq_some_iff.mp hk).1
 have h3 := b.len
 have h4 := M.most
 omega
def rst (S : List (List Nat)) (acc : List (Nat × List Nat)) (k : Nat) (x3 x4 x5 x6 x7 : Option Sl) : PSt := [some (.v (.lst (stD S))), some (.v (.lst (prD acc))), some (.o (.d false (kD (acc.take k))) (wD (acc.take k))), x3, x4, x5, x6, x7, none]
theorem aHs (M : Mch S rk c) (b : lN S c acc) {k : Nat} {x : Nat × List Nat} (hx : acc[k]? = some x) {last : List Nat} (hl : last.length <= 8) (ha : last = x.2 \/ slB last x.2) : lH (rst S acc k (some (.v (.str last))) (some (.v (.int x.1))) (some (.v (.str x.2))) none none) = .ok (.nx (rst S acc (k + 1) (some (.v (.str x.2))) (some (.v (.int x.1))) (some (.v (.str x.2))) none none)) := by
 have hm := List.mem_of_getElem? hx
 obtain ⟨hlt, hr, hL⟩ := b.lt x hm
 have hwl := b.wl M hm
 have hlen := b.len
 have n8 := M.most
 obtain ⟨hk, ek⟩ := List.getElem?_eq_some_iff.mp hx
 have hno : x.1 ∉ (acc.take k).map (·.1) := fun z => by
  have nd := b.nd
  rw [<- List.take_append_drop k acc, List.map_append, List.nodup_append] at nd
  refine nd.2.2 x.1 z x.1 ?_ rfl
  rw [List.drop_eq_getElem_cons hk, ek]
  exact .head _
 have hk0 : kO (kD (acc.take k)) (.int x.1) = false := by rw [aBv, decide_eq_false hno]
 have hi : dIn (.int x.1) (.dct false (kD (acc.take k)) (wD (acc.take k))) = .ok (.bl false) := by
  show aH (keyOk false (.int x.1) = true) (R.ok (D.bl (kO (kD (acc.take k)) (.int x.1)))) = _
  rw [aG (c := keyOk false (.int x.1) = true) rfl, hk0]
 have et : acc.take (k + 1) = acc.take k ++ [(x.1, x.2)] := by rw [List.take_succ_eq_append_getElem hk, ek]
 have e1 : nY (kD (acc.take k)) (.int x.1) = kD (acc.take (k + 1)) := by
  unfold nY
  rw [hk0, et, aEr]
  rfl
 have e2 : qL (kD (acc.take k)) (wD (acc.take k)) (.int x.1) (.str x.2) = wD (acc.take (k + 1)) := by
  unfold qL
  rw [hk0, et, aKa]
  rfl
 refine cU (qH (aAa (p := false) (q := false) (bK rfl rfl hi) fun _ => aAa (p := false) (q := false) (bK (bZ rfl (aHr M M.one x.2 hL (by omega))) rfl (by rw [hr, aJq, decide_eq_true rfl]; rfl)) fun _ => rH (p := true) (bZ rfl (aAo (by omega) (by omega) ha))) rfl) ?_
 refine bI (st' := rst S acc (k + 1) (some (.v (.str last))) (some (.v (.int x.1))) (some (.v (.str x.2))) none none) ?_ (dF rfl)
 unfold sDPut rst
 rw [<- e1, <- e2]
 exact aG ⟨rfl, aQ (by rw [aK9, List.length_take]; omega)⟩
theorem vU (M : Mch S rk c) (b : lN S c acc) : ∀ (m k : Nat) (last : List Nat) (x4 x5 : Option Sl), k + m = acc.length -> last.length <= 8 -> (∀ x, acc[k]? = some x -> last = x.2 \/ slB last x.2) -> ∃ y3 y4 y5, forR (tgT [4, 5]) lH (prD (acc.drop k)) (rst S acc k (some (.v (.str last))) x4 x5 none none) = .ok (.nx (rst S acc acc.length y3 y4 y5 none none))
 | 0, k, last, x4, x5, hk, _, _ => ⟨some (.v (.str last)), x4, x5, by
  rw [show k = acc.length by omega, List.drop_length]
  rfl⟩
 | m + 1, k, last, x4, x5, hk, hl, ha => by
  have hlt : k < acc.length := by omega
  have hx : acc[k]? = some acc[k] := List.getElem?_eq_getElem hlt
  have e := aHs M b hx hl (ha _ hx)
  obtain ⟨y3, y4, y5, e'⟩ := vU M b m (k + 1) acc[k].2 (some (.v (.int acc[k].1))) (some (.v (.str acc[k].2))) (by omega) (b.wl M (List.getElem_mem hlt)) fun y hy => .inr (b.ord k (k + 1) _ _ hx hy (Nat.lt_succ_self k))
  refine ⟨y3, y4, y5, ?_⟩
  rw [List.drop_eq_getElem_cons hlt]
  exact aEn rfl e e'
theorem aN0 {l : Nat} (h : l < 3) : dIx (.str [97, 98, 99]) (.int l) = .ok (.str [97 + l]) := by
 have : l = 0 \/ l = 1 \/ l = 2 := by omega
 rcases this with rfl | rfl | rfl <;> simp [dIx, atI, ofO, ixN]
theorem aHt (M : Mch S rk c) (b : lN S c acc) {x : Nat × List Nat} (hx : x ∈ acc) {l : Nat} (hl : l < c) (x3 x7 : Option Sl) : ∃ y7, lJ (rst S acc acc.length x3 (some (.v (.int x.1))) (some (.v (.str x.2))) (some (.v (.int l))) x7) = .ok (.nx (rst S acc acc.length x3 (some (.v (.int x.1))) (some (.v (.str x.2))) (some (.v (.int l))) y7)) := by
 obtain ⟨k, hk⟩ := List.mem_iff_getElem?.mp hx
 obtain ⟨hlt, _, _⟩ := b.lt x hx
 have c3 := M.c3
 have hwl := b.wl M hx
 obtain ⟨r, f1, f2, f3⟩ := aBp M hlt hl
 obtain ⟨y, hy, hy1, hy2⟩ := b.cls k x l hk hl (.inl (List.getElem?_eq_some_iff.mp hk).1) (decide_eq_true (List.mem_range.mpr f3))
 have hyl := b.wl M hy
 have hd : e2 dIx (dM 2) (aB 7) (rst S acc acc.length x3 (some (.v (.int x.1))) (some (.v (.str x.2))) (some (.v (.int l))) (some (.v (.int (stp S x.1 l))))) = .ok (.str y.2) := bK rfl rfl (by
  show aH (keyOk false (.int (stp S x.1 l)) = true) (ofO (qF (kD (acc.take acc.length)) (wD (acc.take acc.length)) (.int (stp S x.1 l)))) = _
  rw [aG (c := keyOk false (.int (stp S x.1 l)) = true) rfl, List.take_length, <- hy1, aK8 b.nd hy]
  rfl)
 have hn : lC (.int (stp S x.1 l)) (.dct false (kD (acc.take acc.length)) (wD (acc.take acc.length))) = .ok (.bl false) := by
  show aH (keyOk false (.int (stp S x.1 l)) = true) _ = _
  rw [aG (c := keyOk false (.int (stp S x.1 l)) = true) rfl, aBv, List.take_length, decide_eq_true (by rw [<- hy1]; exact List.mem_map.mpr ⟨y, hy, rfl⟩)]
  rfl
 refine ⟨some (.v (.int (stp S x.1 l))), bI (st' := rst S acc acc.length x3 (some (.v (.int x.1))) (some (.v (.str x.2))) (some (.v (.int l))) (some (.v (.int (stp S x.1 l))))) (dF (bK (bK rfl rfl (iZ f1)) rfl (iZ f2))) (qH (aAa (p := false) (q := false) (bK rfl rfl hn) fun _ => rH (p := true) (bZ (bT hd (bT (d := .str (x.2 ++ [97 + l])) (bK rfl (bK rfl rfl (aN0 (by omega))) (aG (aM (by show x.2.length + 1 <= _; omega)))) rfl)) (aAo (by omega) (by rw [List.length_append]; show x.2.length + 1 <= _; omega) hy2))) rfl)⟩
theorem aHu (M : Mch S rk c) (b : lN S c acc) {x : Nat × List Nat} (hx : x ∈ acc) (x3 x6 x7 : Option Sl) : ∃ y6 y7, lK (rst S acc acc.length x3 (some (.v (.int x.1))) (some (.v (.str x.2))) x6 x7) = .ok (.nx (rst S acc acc.length x3 (some (.v (.int x.1))) (some (.v (.str x.2))) y6 y7)) := by
 obtain ⟨hlt, _, _⟩ := b.lt x hx
 have c3 := M.c3
 have hrow := M.row _ (List.getElem_mem hlt)
 obtain ⟨st', ⟨y6, y7, rfl⟩, e⟩ := wN (tg := tgN 6) (L := lJ) (fun st => ∃ y6 y7, st = rst S acc acc.length x3 (some (.v (.int x.1))) (some (.v (.str x.2))) y6 y7) (nats (List.range c)) (fun d hd st ⟨y6, y7, hst⟩ => by
  obtain ⟨l, hl, rfl⟩ := pL hd
  subst hst
  obtain ⟨z7, e⟩ := aHt M b hx (List.mem_range.mp hl) x3 y7
  exact ⟨_, _, rfl, e, _, _, rfl⟩) _ ⟨x6, x7, rfl⟩
 refine ⟨y6, y7, rJ (aOx (n := c) ?_ (by omega)) e⟩
 show R.bind (e2 dIx (aB 0) (aB 4) _) fJ = _
 rw [bK (x := .lst (stD S)) (y := .int x.1) rfl rfl (iZ (aBr hlt)), aO]
 show R.ok (D.int (((nats S[x.1]).length : Nat) : Int)) = _
 rw [bW, hrow.1]
theorem aQz (acc : List (Nat × List Nat)) (st : PSt) : lF (tgN 8) fL lG (st.set 8 none) (prD acc) = .ok [] \/ st.length <= 8 := by
 by_cases hl : st.length <= 8
 ·exact .inr hl
 ·refine .inl ?_
  induction acc with
  | nil => rfl
  | cons x acc ih =>
   have hv : aB 8 ((st.set 8 none).set 8 (some (.v (.tup [.int (x.1 : Nat), .str x.2])))) = .ok (.tup [.int (x.1 : Nat), .str x.2]) := by
    unfold aB
    rw [List.getElem?_set_self (by rw [List.length_set]; omega)]
   have hb : eB aJa (aB 8) ((st.set 8 none).set 8 (some (.v (.tup [.int (x.1 : Nat), .str x.2])))) = .ok (.bl true) := by
    unfold eB
    rw [hv]
    exact aG rfl
   have hc : fL ((st.set 8 none).set 8 (some (.v (.tup [.int (x.1 : Nat), .str x.2])))) = .ok (.bl false) := rH hb
   show R.bind (fL ((st.set 8 none).set 8 (some (.v (.tup [.int (x.1 : Nat), .str x.2]))))) _ = _
   rw [hc, aO, mC, if_neg Bool.false_ne_true]
   exact ih
theorem aD7 : ∀ acc : List (Nat × List Nat), cF (prD acc) = true /\ dD (prD acc) <= 1
 | [] => ⟨rfl, Nat.zero_le _⟩
 | x :: acc => by
  obtain ⟨h1, h2⟩ := aD7 acc
  have e : prD (x :: acc) = .tup [.int (x.1 : Nat), .str x.2] :: prD acc := rfl
  have hd : dep (.tup [.int (x.1 : Nat), .str x.2]) = 1 := rfl
  rw [e, eY, pW, hd, h1]
  exact ⟨rfl, by omega⟩
theorem aKc (M : Mch S rk c) (b : lN S c acc) : fX [.lst (stD S), .lst (prD acc)] = .ok (.bl true) := by
 have n8 := M.most
 have hlen := b.len
 obtain ⟨x, rest, rfl⟩ : ∃ x rest, acc = x :: rest := by
  cases acc with
  | nil => exact absurd b.hd (by simp)
  | cons x rest => exact ⟨x, rest, rfl⟩
 have hx : x = (0, []) := by simpa using b.hd
 obtain ⟨p1, p2⟩ := aD7 (x :: rest)
 have hd : dep (.lst (prD (x :: rest))) <= 2 := by unfold dep; omega
 have hp : plain (.lst (prD (x :: rest))) = true := by (conv => lhs; unfold plain); exact p1
 have t1 : dEq (.lst (prD (x :: rest))) (.lst []) = .ok (.bl false) := by
  rw [aEh, aG ⟨by omega, hp, rfl⟩]
  rfl
 have t2 : dIx (.lst (prD (x :: rest))) (.int 0) = .ok (.tup [.int 0, .str []]) := by
  rw [hx]
  exact iZ (atI_nat (i := 0) (by rw [wU]; exact Nat.succ_pos _))
 have t3 : dNe (.tup [.int 0, .str []]) (.tup [.int 0, .str []]) = .ok (.bl false) := aG ⟨Nat.le_of_ble_eq_true rfl, rfl, rfl⟩
 have ht : aBe (aC (eC (.int 0)) (aC (eC (.str [])) bJ)) [some (.v (.lst (stD S))), some (.v (.lst (prD (x :: rest)))), none, none, none, none, none, none, none] = .ok (.tup [.int 0, .str []]) := aG (aM (by show 2 <= _; omega))
 have hnil : qG bJ [some (.v (.lst (stD S))), some (.v (.lst (prD (x :: rest)))), none, none, none, none, none, none, none] = .ok (.lst []) := aEm rfl
 have hls : eB aCr (aB 1) [some (.v (.lst (stD S))), some (.v (.lst (prD (x :: rest)))), none, none, none, none, none, none, none] = .ok (.bl true) := aG rfl
 refine gF rfl (cU (qH (aAa (p := false) (q := false) (rH (p := true) hls) fun _ => aAa (p := false) (q := false) (bK rfl hnil t1) fun _ => bK (bK rfl rfl t2) ht t3) rfl) ?_)
 have hc : cD [8] (tgN 8) (itE (aB 1)) fL lG [some (.v (.lst (stD S))), some (.v (.lst (prD (x :: rest)))), none, none, none, none, none, none, none] = .ok (.lst []) := iM (nC rfl) (by rw [wU]; omega) ((aQz (x :: rest) [some (.v (.lst (stD S))), some (.v (.lst (prD (x :: rest)))), none, none, none, none, none, none, none]).resolve_right (show ¬ 9 <= 8 by decide))
 refine cU (qH (bK hc hnil (aG ⟨Nat.le_of_ble_eq_true rfl, rfl, rfl⟩)) rfl) ?_
 refine bI (st' := [some (.v (.lst (stD S))), some (.v (.lst (prD (x :: rest)))), some (.o (.d false []) []), none, none, none, none, none, none]) rfl (bI (st' := rst S (x :: rest) 0 (some (.v (.str []))) none none none none) (dF rfl) ?_)
 obtain ⟨y3, y4, y5, e⟩ := vU M b (x :: rest).length 0 [] none none (Nat.zero_add _) (Nat.zero_le _) fun y hy => .inl (by
  have : y = x := by simpa using hy.symm
  rw [this, hx])
 refine bI (rJ (nC rfl) e) ?_
 obtain ⟨st', ⟨z4, z5, z6, z7, rfl⟩, e'⟩ := wN (tg := tgT [4, 5]) (L := lK) (fun st => ∃ y4 y5 y6 y7, st = rst S (x :: rest) (x :: rest).length y3 y4 y5 y6 y7) (prD (x :: rest)) (fun d hd st ⟨y4, y5, y6, y7, hst⟩ => by
  obtain ⟨w, hw, rfl⟩ := List.mem_map.mp hd
  subst hst
  obtain ⟨z6, z7, e⟩ := aHu M b hw y3 y6 y7
  exact ⟨_, _, rfl, e, _, _, _, _, rfl⟩) _ ⟨y4, y5, none, none, rfl⟩
 exact bI (rJ (nC rfl) e') (mO rfl)
end
end Pu
namespace Pu
theorem jF {tg : Tg} {E : Ex} {st : PSt} {G : Nat -> D} : ∀ (ks : List Nat), (∀ k ∈ ks, ∃ s1, tg (.int k) st = .ok s1 /\ E s1 = .ok (G k)) -> lF tg cB E st (nats ks) = .ok (ks.map G)
 | [], _ => rfl
 | k :: ks, h => by
  obtain ⟨s1, h1, h2⟩ := h k (.head _)
  have ih := jF ks fun j hj => h j (.tail _ hj)
  rw [uU, rC, h1, aO]
  show R.bind (E s1) _ = _
  rw [h2, aO, ih]
  rfl
theorem aD8 : ∀ (l : List Nat) (g : Nat), g ∈ l -> (l.map fun (x : Nat) => (x : Int)).findIdx? (fun i => i == (g : Int)) = some (l.idxOf g)
 | [], g, h => nomatch h
 | x :: l, g, h => by
  rw [List.map_cons, List.findIdx?_cons, List.idxOf_cons]
  by_cases hx : x = g
  ·subst hx
   rw [beq_self_eq_true, beq_self_eq_true]
   rfl
  ·have h1 : ((x : Int) == (g : Int)) = false := by rw [beq_eq_false_iff_ne]; omega
   have h2 : (x == g) = false := by rw [beq_eq_false_iff_ne]; exact hx
   rw [h1, h2, aD8 l g ((List.mem_cons.mp h).resolve_left fun z => hx z.symm)]
   rfl
theorem aKd {l : List Nat} {g : Nat} (h : g ∈ l) (hl : l.length <= 1000) : aCu (.lst (nats l)) [.int g] = .ok (.int (l.idxOf g : Nat)) := by
 have e : nats l = (l.map fun (x : Nat) => (x : Int)).map D.int := by
  rw [List.map_map]
  rfl
 show (xP (nats l)).bind _ = _
 rw [e, uO, aO, aD8 l g h]
 show aH _ _ = _
 rw [<- e, bW, aG (aM (by omega))]
section
variable {S : List (List Nat)} {rk : List Nat} {c : Nat} {acc : List (Nat × List Nat)}
def fD (acc : List (Nat × List Nat)) : List Nat := acc.map (·.1)
def trS (S : List (List Nat)) (acc : List (Nat × List Nat)) : List (List Nat) := (fD acc).map fun r => (S.getD r []).map fun g => (fD acc).idxOf g
def trR (rk : List Nat) (acc : List (Nat × List Nat)) : List Nat := (fD acc).map fun r => rk.getD r 0
theorem kW : (fD acc).length = acc.length := List.length_map _
theorem lN.in (b : lN S c acc) {r : Nat} (hr : r ∈ fD acc) : r < S.length := by
 obtain ⟨x, hx, rfl⟩ := List.mem_map.mp hr
 exact (b.lt x hx).1
theorem lN.stp (M : Mch S rk c) (b : lN S c acc) {r l : Nat} (hr : r ∈ fD acc) (hl : l < c) : stp S r l ∈ fD acc := by
 obtain ⟨x, hx, rfl⟩ := List.mem_map.mp hr
 obtain ⟨k, hk⟩ := List.mem_iff_getElem?.mp hx
 obtain ⟨_, _, _, f3⟩ := aBp M (b.lt x hx).1 hl
 obtain ⟨y, hy, hy1, _⟩ := b.cls k x l hk hl (.inl (List.getElem?_eq_some_iff.mp hk).1) (decide_eq_true (List.mem_range.mpr f3))
 rw [<- hy1]
 exact List.mem_map.mpr ⟨y, hy, rfl⟩
theorem pM {r : Nat} (hr : r < S.length) : S.getD r [] = S[r] := by rw [List.getD_eq_getElem?_getD, List.getElem?_eq_getElem hr]; rfl
theorem lN.clo (M : Mch S rk c) (b : lN S c acc) {r g : Nat} (hr : r ∈ fD acc) (hg : g ∈ S.getD r []) : g ∈ fD acc := by
 have hlt := b.in hr
 rw [pM hlt] at hg
 obtain ⟨l, hl, rfl⟩ := List.mem_iff_getElem.mp hg
 have hrow := M.row _ (List.getElem_mem hlt)
 have := b.stp M hr (l := l) (by omega)
 unfold Pu.stp at this
 rw [pM hlt, List.getD_eq_getElem?_getD, List.getElem?_eq_getElem hl] at this
 exact this
theorem lN.mch (M : Mch S rk c) (b : lN S c acc) : Mch (trS S acc) (trR rk acc) c := by
 have n8 := M.most
 have hl := b.len
 have h1 : 1 <= acc.length := by
  cases acc with
  | nil => exact absurd b.hd (by simp)
  | cons x l => exact Nat.succ_pos _
 have e : (trS S acc).length = acc.length := by unfold trS; rw [List.length_map, kW]
 refine ⟨by rw [e]; exact h1, by rw [e]; omega, M.c1, M.c3, fun r hr => ?_, by unfold trR; rw [List.length_map, kW, e]⟩
 obtain ⟨q, hq, rfl⟩ := List.mem_map.mp hr
 have hlt := b.in hq
 refine ⟨by rw [List.length_map, pM hlt]; exact (M.row _ (List.getElem_mem hlt)).1, fun x hx => ?_⟩
 obtain ⟨g, hg, rfl⟩ := List.mem_map.mp hx
 rw [e, <- kW]
 exact List.idxOf_lt_length_of_mem (b.clo M hq hg)
theorem aBw {f : Ex} {st : PSt} (h : f st = .ok (mD S rk c)) : e1 (iJ "Machine" "steps") f st = .ok (.lst (stD S)) := by
 show R.bind (f st) _ = _
 rw [h]
 exact uT
theorem aBx {f : Ex} {st : PSt} (h : f st = .ok (mD S rk c)) : e1 (iJ "Machine" "ranks") f st = .ok (.lst (nats rk)) := by
 show R.bind (f st) _ = _
 rw [h]
 exact aAk
theorem aN1 {f : Ex} {st : PSt} (h : f st = .ok (mD S rk c)) : e1 (iJ "Machine" "many") f st = .ok (.int S.length) := by
 show R.bind (f st) _ = _
 rw [h]
 exact yD
def aR0 : D -> D
 | .tup [a, _] => a
 | d => d
theorem aKe (acc : List (Nat × List Nat)) : (prD acc).map aR0 = nats (fD acc) := by
 unfold prD nats fD
 rw [List.map_map, List.map_map]
 rfl
theorem aOy (S : List (List Nat)) (acc : List (Nat × List Nat)) : (fD acc).map (fun r => D.lst (nats ((S.getD r []).map fun g => (fD acc).idxOf g))) = stD (trS S acc) := by
 unfold stD trS
 rw [List.map_map]
 rfl
theorem aOz (rk : List Nat) (acc : List (Nat × List Nat)) : (fD acc).map (fun r => D.int ((rk.getD r 0 : Nat) : Int)) = nats (trR rk acc) := by
 unfold nats trR
 rw [List.map_map]
 rfl
theorem aG8 (l o : List Nat) : l.map (fun g => D.int ((o.idxOf g : Nat) : Int)) = nats (l.map fun g => o.idxOf g) := by
 unfold nats
 rw [List.map_map]
 rfl
theorem aEt (M : Mch S rk c) (b : lN S c acc) (e : cM [mD S rk c] = .ok (.lst (prD acc))) : pX [mD S rk c] = .ok (mD (trS S acc) (trR rk acc) c) := by
 have n8 := M.most
 have hl := b.len
 have c1 : cD [3, 4] (tgT [3, 4]) (itE (bN cM (aC (aB 0) bJ))) cB vJ [some (.v (mD S rk c)), none, none, none, none, none] = .ok (.lst (nats (fD acc))) := iM (nC (bZ rfl e)) (by rw [wU]; omega) (by
  rw [<- aKe]
  exact kZ aR0 _ fun d hd => by
   obtain ⟨x, _, rfl⟩ := List.mem_map.mp hd
   exact ⟨_, rfl, rfl, rfl⟩)
 have c2 : cD [3] (tgN 3) (itE (aB 1)) cB vK [some (.v (mD S rk c)), some (.v (.lst (nats (fD acc)))), none, none, none, none] = .ok (.lst (stD (trS S acc))) := by
  rw [<- aOy]
  refine iM (nC rfl) (by rw [bW, kW]; omega) (jF _ fun r hr => ⟨_, rfl, ?_⟩)
  have hlt := b.in hr
  have hrow := M.row _ (List.getElem_mem hlt)
  rw [<- aG8]
  refine iM (xs := nats (S.getD r [])) (nC (bK (aBw (S := S) (rk := rk) (c := c) rfl) rfl (iZ (by rw [aBr hlt, pM hlt])))) (by have := M.c3; rw [bW, pM hlt, hrow.1]; omega) (jF _ fun g hg => ⟨_, rfl, ?_⟩)
  exact aG2 rfl rfl (aKd (b.clo M hr hg) (by rw [kW]; omega))
 have c3 : cD [3] (tgN 3) (itE (aB 1)) cB vL [some (.v (mD S rk c)), some (.v (.lst (nats (fD acc)))), some (.v (.lst (stD (trS S acc)))), none, none, none] = .ok (.lst (nats (trR rk acc))) := by
  rw [<- aOz]
  refine iM (nC rfl) (by rw [bW, kW]; omega) (jF _ fun r hr => ⟨_, rfl, ?_⟩)
  exact bK (aBx (S := S) (rk := rk) (c := c) rfl) rfl (iZ (aK3 (by rw [M.rks]; exact b.in hr)))
 exact gF rfl (bI (st' := [some (.v (mD S rk c)), some (.v (.lst (nats (fD acc)))), none, none, none, none]) (dF c1) (bI (st' := [some (.v (mD S rk c)), some (.v (.lst (nats (fD acc)))), some (.v (.lst (stD (trS S acc)))), none, none, none]) (dF c2) (mO (bZ (bT rfl (bT c3 rfl)) (aG0 (b.mch M))))))
theorem aR1 {g : Nat} (h : g ∈ fD acc) : (fD acc)[(fD acc).idxOf g]? = some g := by
 rw [List.getElem?_eq_getElem (List.idxOf_lt_length_of_mem h), List.getElem_idxOf]
theorem aR2 (M : Mch S rk c) (b : lN S c acc) {i r a : Nat} (hi : (fD acc)[i]? = some r) (ha : a < c) : (fD acc)[stp (trS S acc) i a]? = some (stp S r a) := by
 have hr := List.mem_of_getElem? hi
 have hlt := b.in hr
 have hrow := M.row _ (List.getElem_mem hlt)
 have hs : stp S r a ∈ fD acc := b.stp M hr ha
 have e : stp (trS S acc) i a = (fD acc).idxOf (stp S r a) := by
  unfold stp trS
  rw [List.getD_eq_getElem?_getD (l := List.map _ _), List.getElem?_map, hi]
  show ((S.getD r []).map _).getD a 0 = _
  rw [pM hlt, List.getD_eq_getElem?_getD, List.getElem?_map, List.getD_eq_getElem?_getD, List.getElem?_eq_getElem (by omega)]
  rfl
 rw [e]
 exact aR1 hs
theorem aG9 (M : Mch S rk c) (b : lN S c acc) {f : Nat -> Nat} (hf : ∀ n, 97 <= f n /\ (f n : Int) < 97 + c) : ∀ n, (fD acc)[fw (trS S acc) f 0 n]? = some (fw S f 0 n)
 | 0 => by
  show (acc.map (·.1))[0]? = some 0
  rw [List.getElem?_map, b.hd]
  rfl
 | n + 1 => aR2 M b (aG9 M b hf n) (by have := hf n; omega)
theorem Ev.tr (M : Mch S rk c) (b : lN S c acc) {f : Nat -> Nat} (hf : ∀ n, 97 <= f n /\ (f n : Int) < 97 + c) {v : Bool} (h : Ev (trS S acc) (trR rk acc) f 0 v) : Ev S rk f 0 v := by
 obtain ⟨s, e, L, hv⟩ := h
 refine ⟨s, e, ⟨L.lt, L.per, ?_⟩, ?_⟩
 ·have h1 := aG9 M b hf s
  rw [L.eq, aG9 M b hf e] at h1
  exact (Option.some.inj h1).symm
 ·rw [hv]
  have : mx (trR rk acc) (seg (trS S acc) f 0 s e) = mx rk (seg S f 0 s e) := by
   unfold mx seg
   rw [List.map_map, List.map_map]
   refine congrArg zJ (List.map_congr_left fun n _ => ?_)
   show (((trR rk acc).getD (fw (trS S acc) f 0 n) 0 : Nat) : Int) = _
   unfold trR
   rw [List.getD_eq_getElem?_getD, List.getElem?_map, aG9 M b hf n]
   rfl
  rw [this]
theorem aN2 (M : Mch S rk c) (b : lN S c acc) {x t : List Nat} (lb : Ltr c x) (l2 : Ltr c t) (t1 : 1 <= t.length) (tl : t.length <= 10000) (bl : x.length <= 10000) : ∃ v, cG [mD S rk c, .tup [.str x, .str t], .int 0] = .ok (.bl v) /\ cG [mD (trS S acc) (trR rk acc) c, .tup [.str x, .str t], .int 0] = .ok (.bl v) := by
 obtain ⟨v, h1, h2⟩ := aG5 M (q := 0) M.one lb l2 t1 tl bl
 obtain ⟨v', h3, h4⟩ := aG5 (b.mch M) (q := 0) (b.mch M).one lb l2 t1 tl bl
 have hv : v' = v := (h3.tr M b (aEp lb l2 t1)).alone h1
 rw [hv] at h4
 exact ⟨v, h2, h4⟩
def zst (ns : List Int) (S : List (List Nat)) (rk : List Nat) (c : Nat) (x3 x4 x5 x6 x9 x10 x11 : Option Sl) : PSt := [some (.v (.lst (ns.map D.int))), some (.v (.int c)), some (.v (mD S rk c)), x3, x4, x5, x6, some (.v (.lst (stD S))), some (.v (.lst (nats rk))), x9, x10, x11, none, none, none, none]
theorem aAp {w : D} {r : R D} {f : Ex} {a : Exs} {st : PSt} (hf : f st = .ok (mD S rk c)) (ha : a st = .ok [w]) (h : cG [mD S rk c, w, .int 0] = r) : pB "Machine" "lets" (pNX cG) [.int 0] f a st = r.nox := by
 rw [yE hf ha (by decide)]
 show (cG [mD S rk c, w, .int 0]).nox = _
 rw [h]
theorem aUj (cell k : Int) (m : Nat) (h : 0 < m) : ∃ n : Nat, n < m /\ bY [.int cell, .int k, .int m] = .ok (.int n) := by
 obtain ⟨a, b⟩ := uR cell k (m := m) (by omega)
 refine ⟨(wG cell k m).toNat, by omega, ?_⟩
 rw [lV cell k m (by omega), Int.toNat_of_nonneg a]
theorem aEu (ns : List Int) (M : Mch S rk c) (b : lN S c acc) (k : Nat) (x3 x4 x9 x10 x11 : Option Sl) : ∃ y9 y10 y11, aBl (zst ns S rk c x3 x4 (some (.v (mD (trS S acc) (trR rk acc) c))) (some (.v (.int k))) x9 x10 x11) = .ok (.nx (zst ns S rk c x3 x4 (some (.v (mD (trS S acc) (trR rk acc) c))) (some (.v (.int k))) y9 y10 y11)) := by
 have c1 := M.c1
 have c3 := M.c3
 have q1 := sZ ns k
 have q2 : bM [.lst (ns.map D.int), .int ((k : Int) + 1)] = .ok (.int (cv ns (k + 1))) := sZ ns (k + 1)
 generalize cv ns k = u1 at q1
 generalize cv ns (k + 1) = u2 at q2
 obtain ⟨n1, hn1, m1⟩ := aUj u1 1 10 (by omega)
 obtain ⟨n2, hn2, m2⟩ := aUj u1 2 9 (by omega)
 obtain ⟨x, w1, l1, g1⟩ := aD1 u1 n1 c c1 c3 (by omega)
 obtain ⟨t, w2, l2, g2⟩ := aD1 u2 (1 + n2) c c1 c3 (by omega)
 obtain ⟨v, h1, h2⟩ := aN2 M b g1 g2 (by omega) (by omega) (by omega)
 refine ⟨some (.v (.int u1)), some (.v (.str t)), some (.v (.tup [.str x, .str t])), ?_⟩
 refine bI (st' := zst ns S rk c x3 x4 (some (.v (mD (trS S acc) (trR rk acc) c))) (some (.v (.int k))) (some (.v (.int u1))) x10 x11) (dF (bZ rfl q1)) ?_
 refine bI (st' := zst ns S rk c x3 x4 (some (.v (mD (trS S acc) (trR rk acc) c))) (some (.v (.int k))) (some (.v (.int u1))) (some (.v (.str t))) x11) (dF (bZ (bT (bZ (bT rfl (bT (bK rfl rfl rfl) rfl)) q2) (bT (d := .int ((1 + n2 : Nat) : Int)) (bK rfl (bZ rfl m2) (by rw [Int.natCast_add]; rfl)) rfl)) w2)) ?_
 refine bI (st' := zst ns S rk c x3 x4 (some (.v (mD (trS S acc) (trR rk acc) c))) (some (.v (.int k))) (some (.v (.int u1))) (some (.v (.str t))) (some (.v (.tup [.str x, .str t])))) (dF ?_) ?_
 ·have ha := bT (f := bN gW (aC (aB 9) (aC (bN bY (aC (aB 9) (aC (eC (.int 1)) (aC (eC (.int 10)) (bJ))))) (aC (aB 1) (bJ))))) (r := aC (aB 10) (bJ)) (st := zst ns S rk c x3 x4 (some (.v (mD (trS S acc) (trR rk acc) c))) (some (.v (.int k))) (some (.v (.int u1))) (some (.v (.str t))) x11) (ds := [.str t]) (bZ (bT rfl (bT (bZ rfl m1) rfl)) w1) rfl
  show R.bind _ _ = _
  rw [ha, aO]
  exact aG (aM (by show 2 <= _; omega))
 ·exact qH (bK (aAp rfl rfl h2) (aAp rfl rfl h1) (by
   show dNe (.bl v) (.bl v) = _
   rw [aEi, aG ⟨Nat.zero_le 64, rfl, rfl⟩]
   cases v <;> rfl)) rfl
theorem aAq : ∀ l : List Nat, (nats l).all aJm = true
 | [] => rfl
 | x :: l => by rw [uU, List.all_cons, aAq l]; rfl
end
theorem law_true (ns : List Int) (hn : ns.length <= 63) : aA9 [.lst (ns.map D.int)] = .ok (.bl true) := by
 obtain ⟨S, rk, c, em, M⟩ := aMm ns
 have n8 := M.most
 obtain ⟨acc, er, b⟩ := aEs M
 have hl := b.len
 obtain ⟨r0, _, a0, l0⟩ := M.at0
 have et := aEt M b er
 have Mt := b.mch M
 have eR := aKc M b
 have cp := aAe (E := aFu) (st := [some (.v (.lst (ns.map D.int))), some (.v (.int c)), none, none, none, none, none, some (.v (.lst (stD S))), some (.v (.lst (nats rk))), none, none, none, none, none, none, none]) (j := 12) (v := 7) (xs := stD S) rfl (by rw [jQ]; omega) (fun d hd => by
  obtain ⟨r, hr, rfl⟩ := wO hd
  rfl)
 refine gF rfl (bI (st' := [some (.v (.lst (ns.map D.int))), none, none, none, none, none, none, some (.v (.lst (stD S))), some (.v (.lst (nats rk))), none, none, none, none, none, none, none]) ?_ ?_)
 ·show R.bind (gU [.lst (ns.map D.int), .int 8]) _ = _
  rw [em]
  rfl
 refine bI (st' := [some (.v (.lst (ns.map D.int))), some (.v (.int c)), none, none, none, none, none, some (.v (.lst (stD S))), some (.v (.lst (nats rk))), none, none, none, none, none, none, none]) (dF ?_) ?_
 ·show R.bind (e2 dIx (aB 7) (eC (.int 0)) _) fJ = _
  rw [bK (x := .lst (stD S)) (y := .int 0) rfl rfl (iZ a0), aO]
  show R.ok (D.int (((nats r0).length : Nat) : Int)) = _
  rw [bW, l0]
 refine bI (st' := zst ns S rk c none none none none none none none) (dF (bZ (bT cp rfl) (aG0 M))) ?_
 refine bI (st' := zst ns S rk c (some (.o .l (prD acc))) none none none none none none) (aBm (bZ rfl er)) ?_
 refine cU (qH (rH (p := true) ?_) rfl) ?_
 ·show R.bind (fX [.lst (stD S), .lst (prD acc)]) _ = _
  rw [eR]
  rfl
 refine bI (st' := zst ns S rk c (some (.o .l (prD acc))) (some (.v (.lst (nats (fD acc))))) none none none none none) ?_ ?_
 ·have hc : cD [13, 14] (tgT [13, 14]) (itE (aB 3)) cB aBk (zst ns S rk c (some (.v (.lst (prD acc)))) none none none none none none) = .ok (.lst (nats (fD acc))) := iM (nC rfl) (by rw [wU]; omega) (by
   rw [<- aKe]
   exact kZ aR0 _ fun d hd => by
    obtain ⟨x, _, rfl⟩ := List.mem_map.mp hd
    exact ⟨_, rfl, rfl, rfl⟩)
  show R.bind (cD [13, 14] (tgT [13, 14]) (itE (aB 3)) cB aBk (zst ns S rk c (some (.v (.lst (prD acc)))) none none none none none none)) _ = _
  rw [hc, aO]
  exact if_pos (aAq _)
 refine bI (st' := zst ns S rk c (some (.o .l [])) (some (.v (.lst (nats (fD acc))))) none none none none none) rfl ?_
 refine bI (st' := zst ns S rk c (some (.o .l [])) (some (.v (.lst (nats (fD acc))))) (some (.v (mD (trS S acc) (trR rk acc) c))) none none none none) (dF (bZ rfl et)) ?_
 have d1 : cD [13] (tgN 13) (itE (aB 4)) cB aFv (zst ns S rk c (some (.o .l [])) (some (.v (.lst (nats (fD acc))))) (some (.v (mD (trS S acc) (trR rk acc) c))) none none none none) = .ok (.lst (stD (trS S acc))) := by
  rw [<- aOy]
  refine iM (nC rfl) (by rw [bW, kW]; omega) (jF _ fun r hr => ⟨_, rfl, ?_⟩)
  have hlt := b.in hr
  have hrow := M.row _ (List.getElem_mem hlt)
  rw [<- aG8]
  refine iM (xs := nats (S.getD r [])) (nC (bK rfl rfl (iZ (by rw [aBr hlt, pM hlt])))) (by have := M.c3; rw [bW, pM hlt, hrow.1]; omega) (jF _ fun g hg => ⟨_, rfl, ?_⟩)
  exact aG2 rfl rfl (aKd (b.clo M hr hg) (by rw [kW]; omega))
 refine cU (qH (bK (aBw rfl) d1 (aK5 _).1) rfl) ?_
 have d2 : cD [13] (tgN 13) (itE (aB 4)) cB aFw (zst ns S rk c (some (.o .l [])) (some (.v (.lst (nats (fD acc))))) (some (.v (mD (trS S acc) (trR rk acc) c))) none none none none) = .ok (.lst (nats (trR rk acc))) := by
  rw [<- aOz]
  refine iM (nC rfl) (by rw [bW, kW]; omega) (jF _ fun r hr => ⟨_, rfl, ?_⟩)
  exact bK rfl rfl (iZ (aK3 (by rw [M.rks]; exact b.in hr)))
 refine cU (qH (aAa (p := false) (q := false) (bK (aBx rfl) d2 (aG6 _).1) fun _ => bK (aN1 (S := trS S acc) (rk := trR rk acc) (c := c) rfl) rfl ?_) rfl) ?_
 ·show dNe (.int ((trS S acc).length : Nat)) (.int ((nats (fD acc)).length : Nat)) = _
  rw [aJq, decide_eq_true (by rw [bW]; unfold trS; rw [List.length_map])]
  rfl
 obtain ⟨N, hN1, hN2, hN⟩ : ∃ N : Int, 0 <= N /\ N <= 48 /\ e2 aA1 (eC (.int 20)) (e2 aA2 (eC (.int 38)) (e1 fJ (aB 0))) (zst ns S rk c (some (.o .l [])) (some (.v (.lst (nats (fD acc))))) (some (.v (mD (trS S acc) (trR rk acc) c))) none none none none) = .ok (.int N) := by
  refine ⟨_, ?_, ?_, bK rfl (bK rfl rfl rfl) rfl⟩
  ·split <;> split <;> omega
  ·rw [List.length_map]
   split <;> split <;> omega
 have hi : aM9 (eC (.int 18)) (e2 aA1 (eC (.int 20)) (e2 aA2 (eC (.int 38)) (e1 fJ (aB 0)))) (zst ns S rk c (some (.o .l [])) (some (.v (.lst (nats (fD acc))))) (some (.v (mD (trS S acc) (trR rk acc) c))) none none none none) = .ok (dR 18 (N - 18).toNat) := by
  rw [aMe, aTf, aO, hN, aO]
  exact aG ⟨aK (by omega), aL (by omega), aK (by omega), aL (by omega)⟩
 obtain ⟨st', ⟨y6, y9, y10, y11, rfl⟩, e⟩ := wN (tg := tgN 6) (L := aBl) (fun st => ∃ y6 y9 y10 y11, st = zst ns S rk c (some (.o .l [])) (some (.v (.lst (nats (fD acc))))) (some (.v (mD (trS S acc) (trR rk acc) c))) y6 y9 y10 y11) (dR 18 (N - 18).toNat) (fun d hd st ⟨y6, y9, y10, y11, hst⟩ => by
  obtain ⟨k, _, rfl⟩ := xY hd
  subst hst
  obtain ⟨z9, z10, z11, e⟩ := aEu ns M b (18 + k) (some (.o .l [])) (some (.v (.lst (nats (fD acc))))) y9 y10 y11
  exact ⟨_, _, rfl, e, _, _, _, _, rfl⟩) _ ⟨none, none, none, none, rfl⟩
 refine bI (rJ hi e) ?_
 exact mO (aEk (p := true) (q := true) (bZ (bT rfl (bT (bZ rfl er) rfl)) eR) fun _ => aEk (p := true) (q := true) (bK (aBw rfl) rfl (aK5 _).2) fun _ => bK (aBx rfl) rfl (aG6 _).2)
end Pu
namespace Pu
open PySem PySem.Spec PyProof.Rows L2
abbrev LSt := L2.St
def iQ : Key -> D
 | .inl i => .int i
 | .inr x => .str x.cps.toList
structure ExcCl (K : PySem.W.Frag) (C : Addr) : Prop where
 ga : PySem.W.findIn K (.ref C) "__getattribute__" = some (some (.builtin "BaseException.__getattribute__"))
 gn : PySem.W.findIn K (.ref C) "__getattr__" = some none
 mb : PySem.W.mroIn K C (.type "BaseException") = some true
 cl : (PySem.W.clsIn K C).isSome = true
 fd : PySem.W.findIn K (.ref C) "__class__" = some (some (.builtin "object.__class__"))
 sp : PySem.W.specialIn K (.builtin "object.__class__") "__get__" = some (some (.builtin "getset_descriptor.__get__"))
 tk : PySem.W.takesIn K (.builtin "object.__class__") = some true
 mr : PySem.W.mroIn K C (.type "object") = some true
structure ExcAt (K : PySem.W.Frag) (c : String) (C : Addr) (bm : List Value) : Prop where
 ns : PySem.W.nsIn K mainGlobals (Str.ofString c) = some (some (.ref C))
 ob : ∃ (B newId initId : String) (bmB : List Value), ExcBaseFacts B newId initId bmB /\ ∀ h, K.In h -> ∃ N nm q bs hdct sn sub ab col dd k0 k1 k2 k3 k5 mN,
  h.get? C = some (excClassObj nm q C N bs bm hdct sn sub ab col dd k0 k1 k2 k3 k5 newId) /\ h.Ns N mN /\ mN "__init__" = none /\ OwnTail h bmB bm
 ic : ExcCl K C
def aUk (a C : Addr) (h : Heap) : Prop := ∃ o, h.get? a = some o /\ o.cls = .ref C /\ PySem.W.notCls o = true
structure ExcIs (K : PySem.W.Frag) (c : String) (C : Addr) : Prop where
 ns : PySem.W.nsIn K mainGlobals (Str.ofString c) = some (some (.ref C))
 ic : ExcCl K C
def xOb (x C : Addr) (d : Option Addr) (h : Heap) : Prop := ∃ o, h.get? x = some o /\ o.cls = .ref C /\ PySem.W.notCls o = true /\ o.dict = d
def xFs (dx : Addr) (fs : List (Str × V)) (h : Heap) : Prop := ∃ mA, h.Ns1 dx mA /\ (∀ f, oR (fs.lookup f) (mA f)) /\ PySem.Within mA (fs.map (·.1))
mutual
def Rep (K : PySem.W.Frag) (H : Hp) : D -> V -> Prop
 | .non, v => v = V.non
 | .bl b, v => v = V.bl b
 | .int i, v => v = V.int i
 | .str s, v => v = V.str ⟨s.toArray⟩
 | .tup ds, v => ∃ a vs, v = V.ref a /\ H a = some (.tup vs) /\ aW K H ds vs
 | .lst ds, v => ∃ a vs, v = V.ref a /\ SqL K H a vs /\ aW K H ds vs
 | .dct t ks ds, v => ∃ a vs, v = V.ref a /\ ((t = false /\ ∃ kvs : List (Key × V), H a = some (.dK kvs) /\ kvs.map (fun p => iQ p.1) = ks /\ vs = kvs.map (·.2)) \/ (t = true /\ ∃ kvs : List (List Key × V), H a = some (.dT kvs) /\ kvs.map (fun p => D.tup (p.1.map iQ)) = ks /\ vs = kvs.map (·.2))) /\ aW K H ds vs
 | .ins c ns ds, v => ∃ a C dx fs vs, v = V.ref a /\ H a = some (.ins C dx fs) /\ PySem.W.nsIn K mainGlobals (Str.ofString c) = some (some (.ref C)) /\ fs.map (·.1) = ns.map Str.ofString /\ vs = fs.map (·.2) /\ aW K H ds vs
 | .exn c ns ds, v => ∃ a φ C, v = V.ref a /\ H a = some (.ext φ) /\ (∀ h, φ h -> aUk a C h) /\ ExcIs K c C /\ ∃ dx fs vs, ((ns = [] /\ vs = []) \/ (φ = xOb a C (some dx) /\ dx ≠ a /\ H dx = some (.ext (xFs dx fs)) /\ fs.map (·.1) = ns.map Str.ofString /\ vs = fs.map (·.2))) /\ aW K H ds vs
def aW (K : PySem.W.Frag) (H : Hp) : List D -> List V -> Prop
 | [], vs => vs = []
 | d :: ds, vs => ∃ v r, vs = v :: r /\ Rep K H d v /\ aW K H ds r
end
theorem pN {K : PySem.W.Frag} {H H' : Hp} {a : Addr} {xs : List V} (e : aP H H') (h : SqT K H a xs) : SqT K H' a xs := by
 rcases h with (h | ⟨o, h⟩) | h
 ·exact .inl (.inl (e _ _ h))
 ·exact .inl (.inr ⟨o, e _ _ h⟩)
 ·exact .inr h
mutual
theorem Rep.mono {K : PySem.W.Frag} {H H' : Hp} (s : aP H H') : ∀ {d : D} {v : V}, Rep K H d v -> Rep K H' d v
 | .non, _, h => by unfold Rep at h ⊢; exact h
 | .bl _, _, h => by unfold Rep at h ⊢; exact h
 | .int _, _, h => by unfold Rep at h ⊢; exact h
 | .str _, _, h => by unfold Rep at h ⊢; exact h
 | .tup _, _, h => by
  unfold Rep at h ⊢
  obtain ⟨a, vs, e, q, r⟩ := h
  exact ⟨a, vs, e, s _ _ q, aW.mono s r⟩
 | .lst _, _, h => by
  unfold Rep at h ⊢
  obtain ⟨a, vs, e, q, r⟩ := h
  exact ⟨a, vs, e, s.seq q, aW.mono s r⟩
 | .dct _ _ _, _, h => by
  unfold Rep at h ⊢
  obtain ⟨a, vs, e, q, r⟩ := h
  refine ⟨a, vs, e, ?_, aW.mono s r⟩
  rcases q with ⟨q0, kvs, q1, q2⟩ | ⟨q0, kvs, q1, q2⟩
  ·exact .inl ⟨q0, kvs, s _ _ q1, q2⟩
  ·exact .inr ⟨q0, kvs, s _ _ q1, q2⟩
 | .ins _ _ _, _, h => by
  unfold Rep at h ⊢
  obtain ⟨a, C, dx, fs, vs, e, q1, q2, q3, q4, r⟩ := h
  exact ⟨a, C, dx, fs, vs, e, s _ _ q1, q2, q3, q4, aW.mono s r⟩
 | .exn _ _ _, _, h => by
  unfold Rep at h ⊢
  obtain ⟨a, φ, C, e, q, hφ, hi, dx, fs, vs, h1, r⟩ := h
  refine ⟨a, φ, C, e, s _ _ q, hφ, hi, dx, fs, vs, ?_, aW.mono s r⟩
  rcases h1 with h1 | ⟨h1, h2, h3, h4⟩
  ·exact .inl h1
  ·exact .inr ⟨h1, h2, s _ _ h3, h4⟩
theorem aW.mono {K : PySem.W.Frag} {H H' : Hp} (s : aP H H') : ∀ {ds : List D} {vs : List V}, aW K H ds vs -> aW K H' ds vs
 | [], _, h => by unfold aW at h ⊢; exact h
 | d :: ds, _, h => by
  unfold aW at h ⊢
  obtain ⟨v, r, e, q, t⟩ := h
  exact ⟨v, r, e, Rep.mono s q, aW.mono s t⟩
end
section
variable {K : PySem.W.Frag} {H : Hp}
theorem bU {v : V} : Rep K H .non v ↔ v = V.non := by unfold Rep; exact Iff.rfl
theorem bA {b : Bool} {v : V} : Rep K H (.bl b) v ↔ v = V.bl b := by unfold Rep; exact Iff.rfl
theorem aN {i : Int} {v : V} : Rep K H (.int i) v ↔ v = V.int i := by unfold Rep; exact Iff.rfl
theorem aR {s : List Nat} {v : V} : Rep K H (.str s) v ↔ v = V.str ⟨s.toArray⟩ := by unfold Rep; exact Iff.rfl
theorem lL {ds : List D} {v : V} : Rep K H (.tup ds) v ↔ ∃ a vs, v = V.ref a /\ H a = some (.tup vs) /\ aW K H ds vs := by conv => lhs; unfold Rep
theorem aY {ds : List D} {v : V} (h : Rep K H (.tup ds) v) : ∃ a vs, v = V.ref a /\ SqT K H a vs /\ aW K H ds vs :=
 let ⟨a, vs, e, q, r⟩ := lL.mp h; ⟨a, vs, e, SqT.of q, r⟩
theorem bL {ds : List D} {v : V} : Rep K H (.lst ds) v ↔ ∃ a vs, v = V.ref a /\ SqL K H a vs /\ aW K H ds vs := by conv => lhs; unfold Rep
theorem tL {t : Bool} {ks ds : List D} {v : V} : Rep K H (.dct t ks ds) v ↔ ∃ a vs, v = V.ref a /\ ((t = false /\ ∃ kvs : List (Key × V), H a = some (.dK kvs) /\ kvs.map (fun p => iQ p.1) = ks /\ vs = kvs.map (·.2)) \/ (t = true /\ ∃ kvs : List (List Key × V), H a = some (.dT kvs) /\ kvs.map (fun p => D.tup (p.1.map iQ)) = ks /\ vs = kvs.map (·.2))) /\ aW K H ds vs := by conv => lhs; unfold Rep
theorem aGa {c : String} {ns : List String} {ds : List D} {v : V} : Rep K H (.ins c ns ds) v ↔ ∃ a C dx fs vs, v = V.ref a /\ H a = some (.ins C dx fs) /\ PySem.W.nsIn K mainGlobals (Str.ofString c) = some (some (.ref C)) /\ fs.map (·.1) = ns.map Str.ofString /\ vs = fs.map (·.2) /\ aW K H ds vs := by conv => lhs; unfold Rep
theorem cC {vs : List V} : aW K H [] vs ↔ vs = [] := by unfold aW; exact Iff.rfl
theorem bB {d : D} {ds : List D} {vs : List V} : aW K H (d :: ds) vs ↔ ∃ v r, vs = v :: r /\ Rep K H d v /\ aW K H ds r := by conv => lhs; unfold aW
theorem aW.nil : aW K H [] [] := cC.mpr rfl
theorem aW.cons {d : D} {ds : List D} {v : V} {vs : List V} (h : Rep K H d v) (t : aW K H ds vs) : aW K H (d :: ds) (v :: vs) := bB.mpr ⟨v, vs, rfl, h, t⟩
theorem aW.length : ∀ {ds : List D} {vs : List V}, aW K H ds vs -> vs.length = ds.length
 | [], _, h => by rw [cC.mp h]; rfl
 | _ :: ds, _, h => by
  obtain ⟨v, r, rfl, _, t⟩ := bB.mp h
  rw [List.length_cons, List.length_cons, aW.length t]
theorem aW.get : ∀ {ds : List D} {vs : List V} {i : Nat} {d : D}, aW K H ds vs -> ds[i]? = some d -> ∃ v, vs[i]? = some v /\ Rep K H d v
 | [], _, _, _, _, e => by simp at e
 | _ :: ds, _, 0, d, h, e => by
  obtain ⟨v, r, rfl, q, t⟩ := bB.mp h
  simp at e; subst e
  exact ⟨v, rfl, q⟩
 | _ :: ds, _, i + 1, d, h, e => by
  obtain ⟨v, r, rfl, q, t⟩ := bB.mp h
  obtain ⟨u, e1, e2⟩ := aW.get (i := i) t (by simpa using e)
  exact ⟨u, by simpa using e1, e2⟩
theorem aW.append : ∀ {ds es : List D} {vs us : List V}, aW K H ds vs -> aW K H es us -> aW K H (ds ++ es) (vs ++ us)
 | [], _, _, _, h, t => by rw [cC.mp h]; exact t
 | _ :: _, _, _, _, h, t => by
  obtain ⟨v, r, rfl, q, w⟩ := bB.mp h
  exact .cons q (aW.append w t)
theorem aW.take : ∀ {ds : List D} {vs : List V} (n : Nat), aW K H ds vs -> aW K H (ds.take n) (vs.take n)
 | _, _, 0, _ => .nil
 | [], _, _ + 1, h => by rw [cC.mp h]; exact .nil
 | _ :: _, _, n + 1, h => by
  obtain ⟨v, r, rfl, q, w⟩ := bB.mp h
  exact .cons q (aW.take n w)
theorem aW.drop : ∀ {ds : List D} {vs : List V} (n : Nat), aW K H ds vs -> aW K H (ds.drop n) (vs.drop n)
 | _, _, 0, h => h
 | [], _, _ + 1, h => by rw [cC.mp h]; exact .nil
 | _ :: _, _, n + 1, h => by
  obtain ⟨v, r, rfl, q, w⟩ := bB.mp h
  exact aW.drop n w
end
def hide (A : List Addr) (H : Hp) : Hp := fun b => if b ∈ A then none else H b
theorem dY {A : List Addr} {H : Hp} {b : Addr} (h : b ∈ A) : hide A H b = none := if_pos h
theorem bO {A : List Addr} {H : Hp} {b : Addr} (h : b ∉ A) : hide A H b = H b := if_neg h
theorem aX (A : List Addr) (H : Hp) : aP (hide A H) H := fun b o h => by
 unfold hide at h
 split at h
 ·cases h
 ·exact h
theorem aP.hide {A : List Addr} {H H' : Hp} (s : aP H H') : aP (hide A H) (hide A H') := fun b o h => by
 unfold Pu.hide at h ⊢
 split at h
 ·cases h
 ·rename_i q
  rw [if_neg q]
  exact s b o h
theorem dI {A A' : List Addr} {H : Hp} (h : ∀ a ∈ A', a ∈ A) : aP (hide A H) (hide A' H) := fun b o q => by
 by_cases hb : b ∈ A
 ·rw [dY hb] at q; cases q
 ·rw [bO hb] at q
  rw [bO fun z => hb (h b z)]
  exact q
theorem lM (H : Hp) : hide [] H = H := by
 funext b
 exact bO (by simp)
theorem tM {A : List Addr} {H : Hp} {a : Addr} {o : HO} (h : a ∈ A) : hide A (upd H a o) = hide A H := by
 funext b
 by_cases hb : b ∈ A
 ·rw [dY hb, dY hb]
 ·rw [bO hb, bO hb]
  exact bG fun z => hb (z ▸ h)
theorem cI {H : Hp} {p : Addr} {o : HO} (h : H p = none) : aP H (upd H p o) := fun b u q => by
 rw [bG (aU q h)]; exact q
def Own (A : List Addr) (H : Hp) : Prop := ∀ a ∈ A, (H a).isSome = true
theorem Own.mono {A : List Addr} {H H' : Hp} (h : Own A H) (s : aP H H') : Own A H' := fun a ha => by
 obtain ⟨o, e⟩ := Option.isSome_iff_exists.mp (h a ha)
 rw [s a o e]; rfl
theorem Own.free {A : List Addr} {H : Hp} (h : Own A H) {p : Addr} (e : H p = none) : p ∉ A := fun z => by
 have q := h p z
 rw [e] at q; cases q
theorem gZ {K : PySem.W.Frag} {A : List Addr} {H : Hp} {p : Addr} {ds : List D} {vs : List V} (w : Own A H) (e : H p = none) (h : aW K (hide A H) ds vs) : Rep K (hide A (upd H p (.lst vs))) (.lst ds) (.ref p) :=
 bL.mpr ⟨p, vs, rfl, SqL.of (by rw [bO (w.free e)]; exact bV), h.mono (aP.hide (cI e))⟩
theorem vV {K : PySem.W.Frag} {A : List Addr} {H : Hp} {p : Addr} {ds : List D} {vs : List V} (w : Own A H) (e : H p = none) (h : aW K (hide A H) ds vs) : Rep K (hide A (upd H p (.tup vs))) (.tup ds) (.ref p) :=
 lL.mpr ⟨p, vs, rfl, (by rw [bO (w.free e)]; exact bV), h.mono (aP.hide (cI e))⟩
def KOk (K : PySem.W.Frag) : OK -> Addr -> HO -> List V -> Prop
 | .l, _, o, vs => o = .lst vs
 | .d t ks, _, o, vs => (t = false /\ ∃ kvs : List (Key × V), o = .dK kvs /\ kvs.map (fun p => iQ p.1) = ks /\ vs = kvs.map (·.2)) \/ (t = true /\ ∃ kvs : List (List Key × V), o = .dT kvs /\ kvs.map (fun p => D.tup (p.1.map iQ)) = ks /\ vs = kvs.map (·.2))
 | .i n c ns, a, o, vs => a = n /\ ∃ C dx fs, o = .ins C dx fs /\ PySem.W.nsIn K mainGlobals (Str.ofString c) = some (some (.ref C)) /\ fs.map (·.1) = ns.map Str.ofString /\ vs = fs.map (·.2)
theorem KOk.rep {K : PySem.W.Frag} {H : Hp} {k : OK} {o : HO} {vs : List V} {ds : List D} {a : Addr} (ko : KOk K k a o vs) (h : H a = some o) (r : aW K H ds vs) : Rep K H (ofK k ds) (.ref a) := by
 cases k with
 | l => have e : o = .lst vs := ko; subst e; exact bL.mpr ⟨a, vs, rfl, SqL.of h, r⟩
 | d t ks =>
  refine tL.mpr ⟨a, vs, rfl, ?_, r⟩
  rcases ko with ⟨q0, kvs, rfl, q⟩ | ⟨q0, kvs, rfl, q⟩
  ·exact .inl ⟨q0, kvs, h, q⟩
  ·exact .inr ⟨q0, kvs, h, q⟩
 | i n c ns =>
  obtain ⟨_, C, dx, fs, rfl, q1, q2, q3⟩ := ko
  exact aGa.mpr ⟨a, C, dx, fs, vs, rfl, h, q1, q2, q3, r⟩
structure RS (K : PySem.W.Frag) (B A : List Addr) (H : Hp) (st : PSt) (σ : LSt) : Prop where
 len : st.length = σ.length
 own : Own (A ++ B) H
 dis : ∀ a ∈ A, a ∉ B
 val : ∀ (i : Nat) d, st[i]? = some (some (.v d)) -> ∃ v, σ[i]? = some (some v) /\ Rep K (hide (A ++ B) H) d v
 lst : ∀ (i : Nat) k xs, st[i]? = some (some (.o k xs)) -> ∃ a o vs, σ[i]? = some (some (.ref a)) /\ a ∈ A /\ H a = some o /\ KOk K k a o vs /\ aW K (hide (A ++ B) H) xs vs /\
  ∀ (j : Nat) k' ys, st[j]? = some (some (.o k' ys)) -> σ[j]? = some (some (.ref a)) -> j = i
theorem RS.mono {K : PySem.W.Frag} {B A : List Addr} {H H' : Hp} {st : PSt} {σ : LSt} (r : RS K B A H st σ) (s : aP H H') : RS K B A H' st σ where
 len := r.len
 own := r.own.mono s
 dis := r.dis
 val := fun i d e => let ⟨v, e1, q⟩ := r.val i d e; ⟨v, e1, q.mono (aP.hide s)⟩
 lst := fun i k xs e => let ⟨a, o, vs, e1, m, h, ko, q, u⟩ := r.lst i k xs e; ⟨a, o, vs, e1, m, s _ _ h, ko, q.mono (aP.hide s), u⟩
def Le (A : List Addr) (H : Hp) (A' : List Addr) (H' : Hp) : Prop := aP (hide A H) (hide A' H')
theorem Le.refl {A : List Addr} {H : Hp} : Le A H A H := aP.refl _
theorem Le.of {A : List Addr} {H H' : Hp} (s : aP H H') : Le A H A H' := aP.hide s
theorem Le.trans {A A1 A2 : List Addr} {H H1 H2 : Hp} (a : Le A H A1 H1) (b : Le A1 H1 A2 H2) : Le A H A2 H2 := aP.trans a b
def tI (K : PySem.W.Frag) (B : List Addr) (f : Ex) : TE := fun σ H Q => ∃ A st d, RS K B A H st σ /\ f st = .ok d /\ ∀ v H', aP H H' -> Rep K (hide (A ++ B) H') d v -> Q v H'
def iY (K : PySem.W.Frag) (A : List Addr) (H : Hp) (d : D) (v : V) : Prop :=
 Rep K (hide A H) d v \/ ∃ a k o ds vs, d = ofK k ds /\ v = V.ref a /\ H a = some o /\ KOk K k a o vs /\ aW K (hide A H) ds vs
theorem iY.mono {K : PySem.W.Frag} {A : List Addr} {H H' : Hp} {d : D} {v : V} (s : aP H H') (h : iY K A H d v) : iY K A H' d v := by
 rcases h with h | ⟨a, k, o, ds, vs, e1, e2, e3, ko, q⟩
 ·exact .inl (h.mono (aP.hide s))
 ·exact .inr ⟨a, k, o, ds, vs, e1, e2, s _ _ e3, ko, q.mono (aP.hide s)⟩
def tP (K : PySem.W.Frag) (B : List Addr) (f : Ex) : TE := fun σ H Q => ∃ A st d, RS K B A H st σ /\ f st = .ok d /\ ∀ v H', aP H H' -> iY K (A ++ B) H' d v -> Q v H'
def tA (K : PySem.W.Frag) (B : List Addr) (f : Exs) : TA := fun σ H Q => ∃ A st ds, RS K B A H st σ /\ f st = .ok ds /\ ∀ vs H', aP H H' -> aW K (hide (A ++ B) H') ds vs -> Q vs H'
def tT (K : PySem.W.Frag) (B : List Addr) (f : Ex) : TT := fun σ H Q => ∃ A st b, RS K B A H st σ /\ f st = .ok (.bl b) /\ ∀ H', aP H H' -> Q b H'
def tO (K : PySem.W.Frag) (B : List Addr) (f : ExO) : TO := fun σ H Q => ∃ A st o, RS K B A H st σ /\ f st = .ok o /\ ∀ H', aP H H' -> Q o H'
def aHv (K : PySem.W.Frag) (B A : List Addr) (H : Hp) (r : Fl) (Dn : Ends) : Prop := match r with
 | .nx st' => ∀ A' σ' H', Le A H A' H' -> RS K B A' H' st' σ' -> Dn.nx σ' H'
 | .bk st' => ∀ A' σ' H', Le A H A' H' -> RS K B A' H' st' σ' -> Dn.bk σ' H'
 | .ct st' => ∀ A' σ' H', Le A H A' H' -> RS K B A' H' st' σ' -> Dn.ct σ' H'
 | .rt d => ∀ A' v H', Le A H A' H' -> Rep K (hide (A' ++ B) H') d v -> Dn.rt v H'
theorem aHv.mono {K : PySem.W.Frag} {B A A1 : List Addr} {H H1 : Hp} {r : Fl} {Dn : Ends} (l : Le A H A1 H1) (p : aHv K B A H r Dn) : aHv K B A1 H1 r Dn := by
 cases r with
 | nx st => exact fun A' σ' H' l' => p A' σ' H' (l.trans l')
 | bk st => exact fun A' σ' H' l' => p A' σ' H' (l.trans l')
 | ct st => exact fun A' σ' H' l' => p A' σ' H' (l.trans l')
 | rt d => exact fun A' v H' l' => p A' v H' (l.trans l')
def tS (K : PySem.W.Frag) (B : List Addr) (b : Bd) : TS := fun Dn σ H => ∃ A st r, RS K B A H st σ /\ b st = .ok r /\ aHv K B A H r Dn
def aHw (K : PySem.W.Frag) (B A : List Addr) (H : Hp) (J : It) (ds : List D) : Prop := ∀ A' H', Le A H A' H' -> Own (A' ++ B) H' -> ∀ (i : Nat),
 (∀ d, ds[i]? = some d -> J.go i H' /\ ∀ x H3, J.yld i H' x H3 -> aP H' H3 /\ Rep K (hide (A' ++ B) H3) d x) /\ (ds.length <= i -> J.stop i H')
def tIt (K : PySem.W.Frag) (B : List Addr) (f : ItE) : TI := fun σ H R => ∃ A st ds, RS K B A H st σ /\ f st = .ok ds /\ ∀ J H', aP H H' -> aHw K B A H' J ds -> R J H'
def tG (K : PySem.W.Frag) (B : List Addr) (g : Tg) : TG := fun v σ H Q => ∃ A st d s1, RS K B A H st σ /\ Rep K (hide (A ++ B) H) d v /\ g d st = .ok s1 /\ ∀ σ', RS K B A H s1 σ' -> Q σ' H
section
variable {X : Cx}
theorem cH {e : Expr} {t t' : TE} (h : PE X e t) (m : ∀ σ H Q, t' σ H Q -> t σ H Q) : PE X e t' := fun pins s σ H Q I q => h pins s σ H Q I (m σ H Q q)
theorem aEv {e : Expr} {t t' : TT} (h : PT X e t) (m : ∀ σ H Q, t' σ H Q -> t σ H Q) : PT X e t' := fun pins s σ H Q I q => h pins s σ H Q I (m σ H Q q)
theorem aKf {e : Expr} {t t' : TT} (h : PW X e t) (m : ∀ σ H Q, t' σ H Q -> t σ H Q) : PW X e t' := fun w pins s σ H Q I q => h w pins s σ H Q I (m σ H Q q)
theorem aBy {es : List Expr} {t t' : TA} (h : PA X es t) (m : ∀ σ H Q, t' σ H Q -> t σ H Q) : PA X es t' := fun pos pins s σ H Q I q => h pos pins s σ H Q I (m σ H Q q)
theorem aKg {e : Option Expr} {t t' : TO} (h : PO X e t) (m : ∀ σ H Q, t' σ H Q -> t σ H Q) : PO X e t' := fun pins s σ H Q I q => h pins s σ H Q I (m σ H Q q)
theorem dU {st : Stmt} {t t' : TS} (h : PS X st t) (m : ∀ D σ H, t' D σ H -> t D σ H) : PS X st t' := fun pins s σ H D I q => h pins s σ H D I (m D σ H q)
theorem lW {st : List Stmt} {t t' : TS} (h : PSs X st t) (m : ∀ D σ H, t' D σ H -> t D σ H) : PSs X st t' := fun pins s σ H D I q => h pins s σ H D I (m D σ H q)
theorem aKh {e : Expr} {t t' : TG} (h : PG X e t) (m : ∀ v σ H Q, t' v σ H Q -> t v σ H Q) : PG X e t' := fun pins s σ H v u Q I r q => h pins s σ H v u Q I r (m v σ H Q q)
theorem aEw {tg e : Expr} {t t' : TI} (h : L2.PI X tg e t) (m : ∀ σ H R, t' σ H R -> t σ H R) : L2.PI X tg e t' := fun pins s σ H R I q => h pins s σ H R I (m σ H R q)
end
section
variable {X : Cx} {B : List Addr} {a b e : Expr} {f g h : Ex} {pos : Pos}
theorem aA (i : Nat) {x : Str} (hN : X.N[i]? = some x := by rfl) (hv : Vis X.env.scope x := by first | exact Or.inl rfl | exact Or.inr (Or.inl rfl) | exact Or.inr (Or.inr rfl)) (hd : (x == ("__debug__" : Str)) = false := by decide)
  (hcd : (x == ("__classdict__" : Str)) = false := by decide) : PE X (.Name x pos) (tI X.K B (aB i)) := by
 refine cH (oU hN hv hd hcd) ?_
 rintro σ H Q ⟨A, st, d, rs, hd, q⟩
 unfold aB at hd
 split at hd
 ·rename_i d' e
  cases hd
  obtain ⟨v, e1, r⟩ := rs.val i _ e
  exact ⟨v, e1, q v H (aP.refl _) r⟩
 ·cases hd
end
end Pu
namespace Pu
open PySem PySem.Spec PyProof.Rows L2
section
variable {X : Cx} {B : List Addr} {a b e : Expr} {f g : Ex} {pos : Pos}
theorem i_c {d : D} {v : V} (h : PE X e (tC v)) (r : ∀ H, Rep X.K H d v) : PE X e (tI X.K B (eC d)) := cH h (by
 rintro σ H Q ⟨A, st, d', rs, hd, q⟩
 cases hd
 exact q v H (aP.refl _) (r _))
theorem aZ {i : Int} {j : Nat} : PE X (.Constant (.int i) j pos) (tI X.K B (eC (.int i))) := i_c aP3 fun _ => aN.mpr rfl
theorem uV {q : Bool} {j : Nat} : PE X (.Constant (.bool q) j pos) (tI X.K B (eC (.bl q))) := i_c aSl fun _ => bA.mpr rfl
theorem nD {x : Str} {j : Nat} (s : List Nat) (hx : x = ⟨s.toArray⟩ := by first | rfl | decide | decide +kernel) : PE X (.Constant (.str x) j pos) (tI X.K B (eC (.str s))) := i_c aP4 fun _ => aR.mpr (by rw [hx])
theorem aEx {x y : Str} {t : Tok} (s : List Nat) (hm : X.mg x = some (.str y t)) (hg : Gl X x := by rfl) (hy : y = ⟨s.toArray⟩ := by first | rfl | decide | decide +kernel) (hd : (x == ("__debug__" : Str)) = false := by decide) : PE X (.Name x pos) (tI X.K B (eC (.str s))) :=
 i_c (aFf (v := .str y) hg hm ⟨t, rfl⟩ hd) fun _ => aR.mpr (by rw [hy])
theorem aKi {x : Str} {i : Int} {t : Tok} (hm : X.mg x = some (.int i t)) (hg : Gl X x := by rfl) (hd : (x == ("__debug__" : Str)) = false := by decide) : PE X (.Name x pos) (tI X.K B (eC (.int i))) :=
 i_c (aFf (v := .int i) hg hm ⟨t, rfl⟩ hd) fun _ => aN.mpr rfl
theorem toP (h : PE X e (tI X.K B f)) : PE X e (tP X.K B f) := cH h (by
 rintro σ H Q ⟨A, st, d, rs, hd, q⟩
 exact ⟨A, st, d, rs, hd, fun v H' s r => q v H' s (.inl r)⟩)
theorem fQ (i : Nat) {x : Str} (hN : X.N[i]? = some x := by rfl) (hv : Vis X.env.scope x := by first | exact Or.inl rfl | exact Or.inr (Or.inl rfl) | exact Or.inr (Or.inr rfl)) (hd : (x == ("__debug__" : Str)) = false := by decide)
  (hcd : (x == ("__classdict__" : Str)) = false := by decide) : PE X (.Name x pos) (tP X.K B (dM i)) := by
 refine cH (oU hN hv hd hcd) ?_
 rintro σ H Q ⟨A, st, d, rs, hd, q⟩
 unfold dM at hd
 split at hd
 ·rename_i d' e
  cases hd
  obtain ⟨v, e1, r⟩ := rs.val i _ e
  exact ⟨v, e1, q v H (aP.refl _) (.inl r)⟩
 ·rename_i k xs e
  cases hd
  obtain ⟨a, o, vs, e1, m, h, ko, r, _⟩ := rs.lst i _ _ e
  exact ⟨_, e1, q _ H (aP.refl _) (.inr ⟨a, _, o, xs, vs, rfl, rfl, h, ko, r⟩)⟩
 ·cases hd
section
variable {K : PySem.W.Frag} {A : List Addr} {H : Hp} {v : V}
theorem iY.int {i : Int} (h : iY K A H (.int i) v) : v = V.int i := by
 rcases h with h | ⟨_, k, _, _, _, e, _⟩
 ·exact aN.mp h
 ·cases k <;> cases e
theorem iY.str {s : List Nat} (h : iY K A H (.str s) v) : v = V.str ⟨s.toArray⟩ := by
 rcases h with h | ⟨_, k, _, _, _, e, _⟩
 ·exact aR.mp h
 ·cases k <;> cases e
theorem iY.tup {ds : List D} (h : iY K A H (.tup ds) v) : ∃ a vs, v = V.ref a /\ SqT K H a vs /\ aW K (hide A H) ds vs := by
 rcases h with h | ⟨_, k, _, _, _, e, _⟩
 ·obtain ⟨a, vs, e, q, r⟩ := aY h
  exact ⟨a, vs, e, pN (aX _ _) q, r⟩
 ·cases k <;> cases e
theorem iY.lst {ds : List D} (h : iY K A H (.lst ds) v) : ∃ a vs, v = V.ref a /\ SqL K H a vs /\ aW K (hide A H) ds vs := by
 rcases h with h | ⟨a, k, o, ds', vs, e, e2, h, ko, r⟩
 ·obtain ⟨a, vs, e, q, r⟩ := bL.mp h
  exact ⟨a, vs, e, (aX _ _).seq q, r⟩
 ·cases k <;> cases e
  have e3 : o = .lst vs := ko
  subst e3
  exact ⟨a, vs, e2, SqL.of h, r⟩
end
def qI (K : PySem.W.Frag) (r : R2) (o : Op2) : Prop := ∀ (A : List Addr) (H : Hp) (x y d : D) (v u : V) (Q : VK), Own A H -> iY K A H x v -> iY K A H y u -> o x y = .ok d ->
 (∀ w H', aP H H' -> Rep K (hide A H') d w -> Q w H') -> r v u H Q
theorem aBz {r : R2} {o : Op2} (sem : qI X.K r o) {σ : LSt} {H : Hp} {Q : VK} (h : tI X.K B (e2 o f g) σ H Q) : tOp r (tP X.K B f) (tP X.K B g) σ H Q := by
 obtain ⟨A, st, d, rs, hd, q⟩ := h
 obtain ⟨x, hx, h2⟩ := R.ok_of hd
 obtain ⟨y, hy, h3⟩ := R.ok_of h2
 refine ⟨A, st, x, rs, hx, fun v H1 s1 r1 => ⟨A, st, y, rs.mono s1, hy, fun u H2 s2 r2 => ?_⟩⟩
 exact sem (A ++ B) H2 x y d v u Q (rs.own.mono (s1.trans s2)) (r1.mono s2) r2 h3 fun w H' s' r' => q w H' (s1.trans (s2.trans s')) r'
theorem aHx {op : Operator} {r : R2} {o : Op2} (ho : OpR X (binaryOp op) r) (sem : qI X.K r o) (ha : PE X a (tP X.K B f)) (hb : PE X b (tP X.K B g)) : PE X (.BinOp a op b pos) (tI X.K B (e2 o f g)) :=
 cH (aSw ho ha hb) fun _ _ _ h => aBz sem h
theorem kI {op : CmpOp} {r : R2} {o : Op2} (ho : OpR X (compareOp op) r) (sem : qI X.K r o) (ha : PE X a (tP X.K B f)) (hb : PE X b (tP X.K B g)) (hm : behindInMarks op b = false) : PE X (.Compare a [op] [b] pos) (tI X.K B (e2 o f g)) :=
 cH (aLt ho ha hb hm) fun _ _ _ h => aBz sem h
theorem aUl {f : Ex} {σ : LSt} {H : Hp} {Q : Bool -> Hp -> Prop} (h : tT X.K B f σ H Q) : tI X.K B f σ H fun x H' => ∃ k, x = .bl k /\ Q k H' := by
 obtain ⟨A, st, k, rs, hk, q⟩ := h
 exact ⟨A, st, .bl k, rs, hk, fun v H' s r => ⟨k, bA.mp r, q H' s⟩⟩
theorem dW {op : CmpOp} {r : R2} {o : Op2} (ho : OpR X (compareOp op) r) (sem : qI X.K r o) (ha : PE X a (tP X.K B f)) (hb : PE X b (tP X.K B g)) (hm : behindInMarks op b = false) : PT X (.Compare a [op] [b] pos) (tT X.K B (e2 o f g)) :=
 aEv (aLu ho ha hb hm) fun _ _ _ h => aBz sem (aUl h)
theorem jG {f : Ex} (h : PE X e (tI X.K B f)) (he : ∀ whole, isTrue e X.env whole = (do let v <- whole; standAt e.pos; holding [v] (truthy v)) := by intro _; rfl) : PT X e (tT X.K B f) :=
 aEv (aP5 h he) fun _ _ _ q => aUl q
theorem tQ {K : PySem.W.Frag} {g : Int -> Int -> D} {gv : Int -> Int -> V} {o : Op2} (hr : ∀ H i j, Rep K H (g i j) (gv i j)) (ho : ∀ x y d, o x y = .ok d -> ∃ i j, x = .int i /\ y = .int j /\ d = g i j) : qI K (rI0 gv) o := by
 intro A H x y d v u Q w rx ry e q
 obtain ⟨i, j, rfl, rfl, rfl⟩ := ho x y d e
 exact ⟨i, j, rx.int, ry.int, q _ H (aP.refl _) (hr _ _ _)⟩
theorem aEy {K : PySem.W.Frag} {C : Int -> Int -> Prop} {g : Int -> Int -> D} {gv : Int -> Int -> V} {o : Op2} (hr : ∀ H i j, Rep K H (g i j) (gv i j)) (ho : ∀ x y d, o x y = .ok d -> ∃ i j, x = .int i /\ y = .int j /\ C i j /\ d = g i j) : qI K (rI C gv) o := by
 intro A H x y d v u Q w rx ry e q
 obtain ⟨i, j, rfl, rfl, c, rfl⟩ := ho x y d e
 exact ⟨i, j, rx.int, ry.int, c, q _ H (aP.refl _) (hr _ _ _)⟩
theorem aUm (ha : PE X a (tP X.K B f)) (hb : PE X b (tP X.K B g)) : PE X (.BinOp a .Sub b pos) (tI X.K B (e2 aJ8 f g)) :=
 aHx aPj (tQ (g := fun i j => .int (i - j)) (fun _ _ _ => aN.mpr rfl) fun x y d e => by
  unfold aJ8 at e
  split at e
  ·cases e; exact ⟨_, _, rfl, rfl, rfl⟩
  ·cases e) ha hb
theorem aKj (ha : PE X a (tP X.K B f)) (hb : PE X b (tP X.K B g)) : PE X (.BinOp a .FloorDiv b pos) (tI X.K B (e2 zZ f g)) :=
 aHx aLs (aEy (g := fun i j => .int (i / j)) (fun _ _ _ => aN.mpr rfl) fun x y d e => by
  unfold zZ at e
  split at e
  ·obtain ⟨c, e⟩ := aJ e; cases e; exact ⟨_, _, rfl, rfl, c, rfl⟩
  ·cases e) ha hb
theorem oE (ha : PE X a (tP X.K B f)) (hb : PE X b (tP X.K B g)) : PE X (.BinOp a .Mod b pos) (tI X.K B (e2 oK f g)) :=
 aHx aPl (aEy (g := fun i j => .int (i % j)) (fun _ _ _ => aN.mpr rfl) fun x y d e => by
  unfold oK at e
  split at e
  ·obtain ⟨c, e⟩ := aJ e; cases e; exact ⟨_, _, rfl, rfl, c, rfl⟩
  ·cases e) ha hb
theorem aUn (ha : PE X a (tP X.K B f)) (hb : PE X b (tP X.K B g)) : PE X (.BinOp a .Pow b pos) (tI X.K B (e2 aHh f g)) :=
 aHx aPm (aEy (g := fun i j => .int (i ^ j.toNat)) (fun _ _ _ => aN.mpr rfl) fun x y d e => by
  unfold aHh at e
  split at e
  ·obtain ⟨c, e⟩ := aJ e; cases e; exact ⟨_, _, rfl, rfl, c, rfl⟩
  ·cases e) ha hb
def aUo (K : PySem.W.Frag) : R2 := fun x y H Q => ∃ l b xs zs, x = .ref l /\ y = .ref b /\ SqL K H l xs /\ SqL K H b zs /\ xs.length + zs.length <= sizeLine /\ ∀ p, H p = none -> Q (.ref p) (upd H p (.lst (xs ++ zs)))
theorem aN3 : OpR X (binaryOp .Add) (aUo X.K) := by
 intro pins s σ H x y v u Q I rx ry h
 obtain ⟨l, b, xs, zs, rfl, rfl, hH, hB, hz, q⟩ := h
 cases rx
 cases ry
 obtain ⟨its, r, ⟨⟨cls, dd, data, sl⟩, n, ho, hc, _, hd⟩, z⟩ := I.list hH
 obtain ⟨its2, r2, ⟨⟨cls2, dd2, data2, sl2⟩, n2, ho2, hc2, _, hd2⟩, z2⟩ := I.list hB
 simp only at hc hd hc2 hd2
 subst hc hd hc2 hd2
 have l1 := r.length
 have l2 := r2.length
 refine concat_meets ⟨_, ho, rfl⟩ ⟨_, ho2, rfl⟩ noFill_list_add seq_list_add PySem.F.slot_list_add PySem.F.entry_list_add (PySem.F.args_list_add_2 _ _) (list_addW l b its.toArray its2.toArray n n2 dd dd2 sl sl2 (by simp only [List.size_toArray]; omega)) ⟨ho, ho2, ?_⟩
 have ea : its.toArray ++ its2.toArray = (its ++ its2).toArray := by simp
 rw [ea]
 exact ⟨.ref _, _, I.lnew (t' := s.toks) (r.append r2) (by rw [List.length_append]; omega), rfl, q _ I.fresh⟩
theorem aN4 (x y : List Nat) : (⟨x.toArray⟩ : Str) ++ (⟨y.toArray⟩ : Str) = ⟨(x ++ y).toArray⟩ := by
 show Str.append _ _ = _
 unfold Str.append
 simp
theorem str_len (x : List Nat) : (⟨x.toArray⟩ : Str).length = x.length := by simp [Str.length]
theorem lim {n : Nat} (h : n <= big) : n <= sizeLine := Nat.le_trans (by rw [jZ] at h; exact h : n <= 10000000) (by decide)
theorem jA (ha : PE X a (tP X.K B f)) (hb : PE X b (tP X.K B g)) : PE X (.BinOp a .Add b pos) (tI X.K B (e2 iW f g)) := by
 refine aHx (aPi.or (aE8.or aN3)) ?_ ha hb
 intro A H x y d v u Q w rx ry e q
 cases x <;> cases y <;> first | (cases e; done) | skip
 ·cases e
  exact .inl ⟨_, _, rx.int, ry.int, q _ H (aP.refl _) (aN.mpr rfl)⟩
 ·obtain ⟨c, e⟩ := aJ e
  cases e
  exact .inr (.inl ⟨_, _, rx.str, ry.str, by rw [str_len, str_len]; exact lim c, q _ H (aP.refl _) (aR.mpr (by rw [aN4]))⟩)
 ·obtain ⟨c, e⟩ := aJ e
  cases e
  obtain ⟨l, xs, e1, h1, r1⟩ := rx.lst
  obtain ⟨m, ys, e2, h2, r2⟩ := ry.lst
  have l1 := r1.length
  have l2 := r2.length
  refine .inr (.inr ⟨l, m, xs, ys, e1, e2, h1, h2, by rw [l1, l2]; exact lim c, fun p hp => q _ _ (cI hp) ?_⟩)
  exact gZ w hp (r1.append r2)
theorem aR3 {K : PySem.W.Frag} : qI K (rI0 fun i j => .bl (decide (i <= j))) dLe := tQ (g := fun i j => .bl (decide (i <= j))) (fun _ _ _ => bA.mpr rfl) fun x y d e => by
 unfold dLe at e
 split at e
 ·cases e; exact ⟨_, _, rfl, rfl, rfl⟩
 ·cases e
theorem aR4 {K : PySem.W.Frag} : qI K (rI0 fun i j => .bl (decide (j < i))) dGt := tQ (g := fun i j => .bl (decide (j < i))) (fun _ _ _ => bA.mpr rfl) fun x y d e => by
 unfold dGt at e
 split at e
 ·cases e; exact ⟨_, _, rfl, rfl, rfl⟩
 ·cases e
theorem aEz {K : PySem.W.Frag} : qI K (rI0 fun i j => .bl (decide (j <= i))) dGe := tQ (g := fun i j => .bl (decide (j <= i))) (fun _ _ _ => bA.mpr rfl) fun x y d e => by
 unfold dGe at e
 split at e
 ·cases e; exact ⟨_, _, rfl, rfl, rfl⟩
 ·cases e
theorem aKk (n : Nat) (i : Int) : L2.ixN n i = Pu.ixN n i := rfl
theorem aW.atI {K : PySem.W.Frag} {H : Hp} {ds : List D} {vs : List V} {i : Int} {d : D} (r : aW K H ds vs) (e : Pu.atI ds i = some d) : ∃ v, L2.atI vs i = some v /\ Rep K H d v := by
 unfold Pu.atI at e
 unfold L2.atI
 rw [r.length, aKk]
 cases h : Pu.ixN ds.length i with
 | none => rw [h] at e; cases e
 | some j =>
  rw [h] at e
  exact r.get e
theorem rM {α : Type} {o : Option α} {a : α} (h : ofO o = .ok a) : o = some a := by
 cases o with
 | none => cases h
 | some b => cases h; rfl
theorem aR5 {K : PySem.W.Frag} {x : D} (hd : aTd x = false) (A : List Addr) (H : Hp) (x' y d : D) (v u : V) (Q : VK) (w : Own A H) (rx : iY K A H x v) (ry : iY K A H y u) (e : dIx x y = .ok d) (q : ∀ w H', aP H H' -> Rep K (hide A H') d w -> Q w H') : rIx K v u H Q := by
 cases x <;> first | (cases hd; done) | skip
 all_goals cases y
 all_goals first | (cases e; done) | skip
 ·rename_i s i
  obtain ⟨hz, e⟩ := aJ e
  have e := rM e
  cases h : Pu.atI s i with
  | none => rw [h] at e; cases e
  | some c =>
   rw [h] at e
   cases e
   refine .inr (.inr ⟨_, i, c, rx.str, ry.int, by rw [str_len]; exact lim hz, ?_, q _ H (aP.refl _) (aR.mpr rfl)⟩)
   show L2.atI s.toArray.toList i = some c
   rw [List.toList_toArray]
   exact h
 ·rename_i ds i
  have h := rM (show ofO (Pu.atI ds i) = .ok d from e)
  obtain ⟨l, xs, e1, h1, r1⟩ := rx.tup
  obtain ⟨z, h2, r2⟩ := r1.atI h
  exact .inr (.inl ⟨l, xs, i, z, e1, ry.int, h1, h2, q _ H (aP.refl _) r2⟩)
 ·rename_i ds i
  have h := rM (show ofO (Pu.atI ds i) = .ok d from e)
  obtain ⟨l, xs, e1, h1, r1⟩ := rx.lst
  obtain ⟨z, h2, r2⟩ := r1.atI h
  exact .inl ⟨l, xs, i, z, e1, ry.int, h1, h2, q _ H (aP.refl _) r2⟩
theorem pO (h : PE X a (tI X.K B f)) : PE X (.BoolOp .And [a] pos) (tI X.K B f) := aP9 h
theorem oF {rest : List Expr} (ha : PE X a (tI X.K B f)) (hb : PE X (.BoolOp .And (b :: rest) pos) (tI X.K B g)) : PE X (.BoolOp .And (a :: b :: rest) pos) (tI X.K B (oZ f g)) := by
 refine cH (aPa ha hb) ?_
 rintro σ H Q ⟨A, st, d, rs, hd, q⟩
 obtain ⟨x, hx, h2⟩ := R.ok_of hd
 obtain ⟨k, rfl, h3⟩ := oY h2
 refine ⟨A, st, _, rs, hx, fun v H1 s1 r1 => ⟨k, bA.mp r1, ?_⟩⟩
 cases k with
 | true => exact ⟨A, st, d, rs.mono s1, h3, fun w H' s' r' => q w H' (s1.trans s') r'⟩
 | false => cases h3; exact q _ H1 s1 (bA.mpr rfl)
theorem aUp (ha : PE X a (tI X.K B f)) : PE X (.UnaryOp .Not a pos) (tI X.K B (oM f)) := by
 refine cH (aPb ha) ?_
 rintro σ H Q ⟨A, st, d, rs, hd, q⟩
 obtain ⟨x, hx, h2⟩ := R.ok_of hd
 obtain ⟨k, rfl, h3⟩ := oY h2
 cases h3
 exact ⟨A, st, _, rs, hx, fun v H1 s1 r1 => ⟨k, bA.mp r1, q _ H1 s1 (bA.mpr rfl)⟩⟩
theorem aR6 (h : PT X a (tT X.K B f)) : PW X (.BoolOp .And [a] pos) (tT X.K B f) := aLo h
theorem aAr (h : PT X a (tT X.K B f)) : PW X (.BoolOp .Or [a] pos) (tT X.K B f) := aP6 h
theorem aUq {rest : List Expr} (ha : PT X a (tT X.K B f)) (hb : PW X (.BoolOp .And (b :: rest) pos) (tT X.K B g)) : PW X (.BoolOp .And (a :: b :: rest) pos) (tT X.K B (oZ f g)) := by
 refine aKf (aP7 ha hb) ?_
 rintro σ H Q ⟨A, st, d, rs, hd, q⟩
 obtain ⟨x, hx, h2⟩ := R.ok_of hd
 obtain ⟨k, rfl, h3⟩ := oY h2
 refine ⟨A, st, k, rs, hx, fun H1 s1 => ?_⟩
 cases k with
 | true => exact ⟨A, st, d, rs.mono s1, h3, fun H' s' => q H' (s1.trans s')⟩
 | false => cases h3; exact q H1 s1
theorem aD9 {rest : List Expr} (ha : PT X a (tT X.K B f)) (hb : PW X (.BoolOp .Or (b :: rest) pos) (tT X.K B g)) : PW X (.BoolOp .Or (a :: b :: rest) pos) (tT X.K B (eOr f g)) := by
 refine aKf (aSm ha hb) ?_
 rintro σ H Q ⟨A, st, d, rs, hd, q⟩
 obtain ⟨x, hx, h2⟩ := R.ok_of hd
 obtain ⟨k, rfl, h3⟩ := oY h2
 refine ⟨A, st, k, rs, hx, fun H1 s1 => ?_⟩
 cases k with
 | true => cases h3; exact q H1 s1
 | false => exact ⟨A, st, d, rs.mono s1, h3, fun H' s' => q H' (s1.trans s')⟩
theorem nF (ha : PT X a (tT X.K B f)) : PT X (.UnaryOp .Not a pos) (tT X.K B (oM f)) := by
 refine aEv (aP8 ha) ?_
 rintro σ H Q ⟨A, st, d, rs, hd, q⟩
 obtain ⟨x, hx, h2⟩ := R.ok_of hd
 obtain ⟨k, rfl, h3⟩ := oY h2
 cases h3
 exact ⟨A, st, k, rs, hx, fun H1 s1 => q H1 s1⟩
theorem bC : PA X [] (tA X.K B bJ) := aBy fK (by
 rintro σ H Q ⟨A, st, d, rs, hd, q⟩
 cases hd
 exact q [] H (aP.refl _) .nil)
theorem aD {es : List Expr} {r : Exs} (ha : PE X e (tI X.K B f)) (hr : PA X es (tA X.K B r)) (hs : starEach (e :: es) X.env = (false, eval e X.env) :: starEach es X.env := by rfl) : PA X (e :: es) (tA X.K B (aC f r)) := by
 refine aBy (cW ha hr hs) ?_
 rintro σ H Q ⟨A, st, ds, rs, hd, q⟩
 obtain ⟨x, hx, h2⟩ := R.ok_of hd
 obtain ⟨xs, hxs, h3⟩ := R.ok_of h2
 cases h3
 refine ⟨A, st, x, rs, hx, fun v H1 s1 r1 => ⟨A, st, xs, rs.mono s1, hxs, fun vs H2 s2 r2 => ?_⟩⟩
 exact q _ H2 (s1.trans s2) (.cons (r1.mono (aP.hide s2)) r2)
theorem aDa {es : List Expr} {r : Exs} {x1 : Nat} (h : PA X es (tA X.K B r)) : PE X (.Tuple es x1 pos) (tI X.K B (aBe r)) := by
 refine cH (aPq h) ?_
 rintro σ H Q ⟨A, st, d, rs, hd, q⟩
 obtain ⟨xs, hx, h2⟩ := R.ok_of hd
 obtain ⟨c, h3⟩ := aJ h2
 cases h3
 refine ⟨A, st, xs, rs, hx, fun vs H1 s1 r1 => ⟨by rw [r1.length]; exact lim c, fun p hp => q _ _ (s1.trans (cI hp)) ?_⟩⟩
 exact vV (rs.own.mono s1) hp r1
theorem aKl {es : List Expr} {r : Exs} (h : PA X es (tA X.K B r)) : PE X (.List es pos) (tI X.K B (qG r)) := by
 refine cH (aIw h) ?_
 rintro σ H Q ⟨A, st, d, rs, hd, q⟩
 obtain ⟨xs, hx, h2⟩ := R.ok_of hd
 obtain ⟨c, h3⟩ := aJ h2
 cases h3
 refine ⟨A, st, xs, rs, hx, fun vs H1 s1 r1 => ⟨by rw [r1.length]; exact lim c, fun p hp => q _ _ (s1.trans (cI hp)) ?_⟩⟩
 exact gZ (rs.own.mono s1) hp r1
def spI (K : PySem.W.Frag) (np : Nat) (p : List D -> R D) : Sp := fun vs H Q _ => ∃ A ds d, Own A H /\ aW K (hide A H) ds vs /\ ds.length = np /\ p ds = .ok d /\ ∀ v H', aP H H' -> Rep K (hide A H') d v -> Q v H'
theorem aR7 {k : Nat} {fa : Addr} {fd : FuncData} {ps : List Str} {x : Str} {p0 : Pos} {es : List Expr} {r : Exs} {np : Nat} {p : List D -> R D} (F : FnOk X.prog X.w X.K X.mg X.base CX0 k fa fd ps (spI X.K np p)) (hr : Room k X.A) (hm : X.mg x = some (.ref fa))
  (hk : PySem.W.keepIn X.K (.ref fa) = true) (hb : Binds X.K fd ps []) (hl : ∀ ds d, p ds = .ok d -> ds.length = np) (ha : PA X (e :: es) (tA X.K B r)) (hg : Gl X x := by rfl) (hdb : (x == ("__debug__" : Str)) = false := by decide)
  (he : starEach (e :: es) X.env = (false, eval e X.env) :: starEach es X.env := by rfl) (hpl : (backTo pos (starEach es X.env)).any (·.1) = false := by rfl) :
  PE X (.Call (.Name x p0) (e :: es) [] pos) (tI X.K B (bN p r)) := by
 refine cH (aB6 F hr hg hm hk hb .nil zV ha hdb he hpl) ?_
 rintro σ H Q ⟨A, st, d, rs, hd, q⟩
 obtain ⟨xs, hx, h2⟩ := R.ok_of hd
 refine ⟨A, st, xs, rs, hx, fun vs H1 s1 r1 => ?_⟩
 show spI X.K np p (vs ++ []) H1 Q E0
 rw [List.append_nil]
 exact ⟨A ++ B, xs, d, rs.own.mono s1, r1, hl _ _ h2, h2, fun w H' s' r' => q w H' (s1.trans s') r'⟩
end
end Pu
namespace Pu
open PySem PySem.Spec PyProof.Rows L2
theorem aC0 (a b : Key) : eqK (iQ a) (iQ b) = decide (a = b) := by
 cases a with
 | inl i =>
  cases b with
  | inl j => unfold iQ eqK; rw [aIi]
  | inr y => unfold iQ eqK; rw [aIk]
 | inr x =>
  cases b with
  | inl j => unfold iQ eqK; rw [aIl]
  | inr y =>
   unfold iQ eqK
   rw [aIj, Bool.eq_iff_iff, beq_iff_eq, decide_eq_true_eq]
   constructor
   ·intro h
    cases x; cases y
    congr 1
    exact Array.ext' h
   ·rintro rfl; rfl
theorem aDb : ∀ (a b : List Key), aEe (a.map iQ) (b.map iQ) = decide (a = b)
 | [], [] => by unfold aEe; simp
 | [], _ :: _ => by unfold aEe; simp
 | _ :: _, [] => by unfold aEe; simp
 | x :: a, y :: b => by
  have ih := aDb a b
  rw [List.map_cons, List.map_cons]
  unfold aEe
  rw [aC0, ih, Bool.eq_iff_iff, Bool.and_eq_true, decide_eq_true_eq, decide_eq_true_eq, decide_eq_true_eq, List.cons.injEq]
theorem aDc (a b : List Key) : eqK (.tup (a.map iQ)) (.tup (b.map iQ)) = decide (a = b) := by
 rw [<- aDb]
 conv => lhs; unfold eqK
section
variable {κ : Type} [DecidableEq κ] {E : κ -> D} (hE : ∀ a b, eqK (E a) (E b) = decide (a = b)) {K : PySem.W.Frag} {H : Hp}
include hE
theorem aC1 (k : κ) : ∀ (kvs : List (κ × V)) (ds : List D), aW K H ds (kvs.map (·.2)) -> (∀ d, qF (kvs.map fun p => E p.1) ds (E k) = some d -> ∃ v, sE kvs k = some v /\ Rep K H d v) /\ (sE kvs k).isSome = kO (kvs.map fun p => E p.1) (E k)
 | [], ds, r => ⟨fun d h => by cases ds <;> simp [qF] at h, rfl⟩
 | (a, v) :: kvs, ds, r => by
  cases ds with
  | nil => have := cC.mp r; simp at this
  | cons d ds =>
   obtain ⟨v', r', e, h1, h2⟩ := bB.mp r
   rw [List.map_cons] at e
   injection e with e1 e2
   subst e1 e2
   obtain ⟨i1, i2⟩ := aC1 k kvs ds h2
   by_cases ha : a = k
   ·have hk : eqK (E a) (E k) = true := by rw [hE, decide_eq_true_eq]; exact ha
    refine ⟨fun d' h => ?_, ?_⟩
    ·unfold qF at h
     rw [List.map_cons, List.zip_cons_cons, List.find?_cons_of_pos (by simpa using hk)] at h
     cases h
     exact ⟨v, oV ha, h1⟩
    ·rw [oV ha]
     unfold kO
     rw [List.map_cons, List.any_cons, hk]
     rfl
   ·have hk : eqK (E a) (E k) = false := by rw [hE, decide_eq_false_iff_not]; exact ha
    refine ⟨fun d' h => ?_, ?_⟩
    ·rw [oW ha]
     refine i1 d' ?_
     unfold qF at h ⊢
     rw [List.map_cons, List.zip_cons_cons, List.find?_cons_of_neg (by simpa using hk)] at h
     exact h
    ·rw [oW ha, i2]
     unfold kO
     rw [List.map_cons, List.any_cons, hk]
     rfl
theorem aKm (k : κ) (kvs : List (κ × V)) : (kvs.any fun kv => decide (kv.1 = k)) = kO (kvs.map fun p => E p.1) (E k) := by
 unfold kO
 rw [List.any_map]
 congr 1
 funext p
 simp [hE]
theorem aGb (k : κ) (v : V) (d : D) (hd : Rep K H d v) (kvs : List (κ × V)) (ds : List D) (r : aW K H ds (kvs.map (·.2))) :
  (putK kvs k v).map (fun p => E p.1) = nY (kvs.map fun p => E p.1) (E k) /\ aW K H (qL (kvs.map fun p => E p.1) ds (E k) d) ((putK kvs k v).map (·.2)) := by
 unfold putK nY qL
 rw [aKm hE]
 by_cases hh : kO (kvs.map fun p => E p.1) (E k) = true
 ·rw [if_pos hh, if_pos hh, if_pos hh]
  constructor
  ·rw [List.map_map]
   refine List.map_congr_left fun p _ => ?_
   simp only [Function.comp_apply]
   split <;> rfl
  ·clear hh
   induction kvs generalizing ds with
   | nil => have := r.length; cases ds with | nil => exact .nil | cons _ _ => simp at this
   | cons p kvs ih =>
    obtain ⟨a, w⟩ := p
    cases ds with
    | nil => have := cC.mp r; simp at this
    | cons d0 ds =>
     obtain ⟨v', r', e, h1, h2⟩ := bB.mp r
     rw [List.map_cons] at e
     injection e with e1 e2
     subst e1 e2
     rw [List.map_cons, List.map_cons, List.map_cons, List.zip_cons_cons, List.map_cons]
     refine .cons ?_ (ih ds h2)
     by_cases ha : a = k
     ·have hk : eqK (E a) (E k) = true := by rw [hE, decide_eq_true_eq]; exact ha
      rw [if_pos hk, if_pos ha]
      exact hd
     ·have hk : eqK (E a) (E k) = false := by rw [hE, decide_eq_false_iff_not]; exact ha
      rw [if_neg (by rw [hk]; exact Bool.false_ne_true), if_neg ha]
      exact h1
 ·rw [if_neg hh, if_neg hh, if_neg hh]
  refine ⟨by rw [List.map_append]; rfl, ?_⟩
  rw [List.map_append]
  exact r.append (.cons hd .nil)
end
theorem rN {K : PySem.W.Frag} {H : Hp} {d : D} {v : V} (r : Rep K H d v) (h : keyOk false d = true) : ∃ k : Key, d = iQ k /\ v = kV k := by
 cases d <;> first | (cases h; done) | skip
 ·exact ⟨.inl _, rfl, aN.mp r⟩
 ·exact ⟨.inr _, rfl, aR.mp r⟩
theorem tR {K : PySem.W.Frag} {H : Hp} : ∀ {ds : List D} {vs : List V}, aW K H ds vs -> ds.all aJ9 = true -> ∃ ks : List Key, ds = ks.map iQ /\ vs = ks.map kV
 | [], vs, r, _ => ⟨[], rfl, cC.mp r⟩
 | d :: ds, vs, r, h => by
  obtain ⟨v, r', rfl, h1, h2⟩ := bB.mp r
  rw [List.all_cons, Bool.and_eq_true] at h
  obtain ⟨ks, e1, e2⟩ := tR h2 h.2
  obtain ⟨k, e3, e4⟩ := rN h1 (by cases d <;> first | (cases h.1; done) | rfl)
  exact ⟨k :: ks, by rw [e1, e3]; rfl, by rw [e2, e4]; rfl⟩
theorem vW {K : PySem.W.Frag} {H : Hp} {d : D} {v : V} (r : Rep K H d v) (h : keyOk true d = true) : ∃ (ks : List Key) (b : Addr), d = .tup (ks.map iQ) /\ v = .ref b /\ H b = some (.tup (ks.map kV)) := by
 cases d <;> first | (cases h; done) | skip
 rename_i xs
 obtain ⟨b, vs, e, hb, rs⟩ := lL.mp r
 have h' : xs.all aJ9 = true := by
  unfold keyOk at h
  simpa using h
 obtain ⟨ks, e1, e2⟩ := tR rs h'
 exact ⟨ks, b, by rw [e1], e, by rw [<- e2]; exact hb⟩
theorem aC2 {K : PySem.W.Frag} {A : List Addr} {H : Hp} {t : Bool} {ks ds : List D} {k : D} {v u : V} (rx : iY K A H (.dct t ks ds) v) (ry : Rep K H k u) (hk : keyOk t k = true) :
  ∃ a o, v = .ref a /\ uL H a u o /\ o.isSome = kO ks k /\ ∀ d, qF ks ds k = some d -> ∃ w, o = some w /\ Rep K (hide A H) d w := by
 have key : ∃ a vs, v = V.ref a /\ ((t = false /\ ∃ kvs : List (Key × V), H a = some (.dK kvs) /\ kvs.map (fun p => iQ p.1) = ks /\ vs = kvs.map (·.2)) \/ (t = true /\ ∃ kvs : List (List Key × V), H a = some (.dT kvs) /\ kvs.map (fun p => D.tup (p.1.map iQ)) = ks /\ vs = kvs.map (·.2))) /\ aW K (hide A H) ds vs := by
  rcases rx with h | ⟨a, kk, o, ds', vs, e, e2, h, ko, r⟩
  ·obtain ⟨a, vs, e, q, r⟩ := tL.mp h
   refine ⟨a, vs, e, ?_, r⟩
   rcases q with ⟨q0, kvs, q1, q2⟩ | ⟨q0, kvs, q1, q2⟩
   ·exact .inl ⟨q0, kvs, aX _ _ _ _ q1, q2⟩
   ·exact .inr ⟨q0, kvs, aX _ _ _ _ q1, q2⟩
  ·cases kk <;> cases e
   refine ⟨a, vs, e2, ?_, r⟩
   rcases ko with ⟨q0, kvs, q1, q2⟩ | ⟨q0, kvs, q1, q2⟩
   ·subst q1; exact .inl ⟨q0, kvs, h, q2⟩
   ·subst q1; exact .inr ⟨q0, kvs, h, q2⟩
 obtain ⟨a, vs, e, q, r⟩ := key
 rcases q with ⟨rfl, kvs, q1, rfl, rfl⟩ | ⟨rfl, kvs, q1, rfl, rfl⟩
 ·obtain ⟨k', e1, e2⟩ := rN ry hk
  subst e1 e2
  obtain ⟨i1, i2⟩ := aC1 aC0 k' kvs ds r
  exact ⟨a, _, e, uL.k q1, i2, fun d hd => let ⟨w, h1, h2⟩ := i1 d hd; ⟨w, h1, h2⟩⟩
 ·obtain ⟨k', b, e1, e2, e3⟩ := vW ry hk
  subst e1 e2
  obtain ⟨i1, i2⟩ := aC1 aDc k' kvs ds r
  exact ⟨a, _, e, uL.t q1 e3, i2, fun d hd => let ⟨w, h1, h2⟩ := i1 d hd; ⟨w, h1, h2⟩⟩
section
variable {X : Cx} {B : List Addr} {a b e : Expr} {f g : Ex} {pos : Pos}
def aUr : R2 := fun x y H Q => ∃ p v, x = .ref p /\ uL H p y (some v) /\ Q v H
theorem aGc (hu : X.A.units + 64 < cLine) : IxR X aUr := by
 intro value slice pins s σ H x y v u Q I rx ry h hs
 obtain ⟨p, z, rfl, g, q⟩ := h
 cases rx
 have hT := aCp I g
 unfold subscriptTail
 refine wpAny_bind ?_
 rw [getitemInPython_of_ne hT.not_modules]
 refine wpAny_bind (wpAny_specialOf hT PySem.F.slot_dict_getitem.lookup ?_)
 have h2 : wpAny (model X.prog X.w) X.A (getItem (.ref p) u) (EP X pins σ Q) X.xe s := aHf (by omega) I g ry fun w' s3 I3 rw' => ⟨z, H, I3, rw', q⟩
 have fin : wpAny (model X.prog X.w) X.A (subscripted slice false (.ref p) u) (fun r s3 => wpAny (model X.prog X.w) X.A (letTemporaryGo value (.ref p) r >>= fun _ => pure r) (EP X pins σ Q) X.xe s3) X.xe s := by
  rw [hs]
  exact wpAny_operating (wpAny_mono h2 (fun r s3 h3 => wpAny_bind (wpAny_letTemporaryGo (wpAny_pure h3))) fun _ _ x => x)
 first
  | exact wpAny_pure (wpAny_bind fin)
  | exact wpAny_bind (wpAny_pure (wpAny_bind fin))
  | exact wpAny_bind fin
theorem aGd {K : PySem.W.Frag} : qI K (fun x y H Q => rIx K x y H Q \/ aUr x y H Q) dIx := by
 intro A H x y d v u Q w rx ry e q
 by_cases hx : aTd x = true
 ·cases x <;> first | (cases hx; done) | skip
  rename_i t ks vs
  have e' : aH (keyOk t y = true) (ofO (qF ks vs y)) = .ok d := by cases y <;> exact e
  obtain ⟨hk, e2⟩ := aJ e'
  have ryr : Rep K H y u := by
   rcases ry with h | ⟨a, kk, o, ds, vs', e1, _⟩
   ·exact h.mono (aX _ _)
   ·subst e1; cases kk <;> cases t <;> cases hk
  obtain ⟨a, o, e3, g, _, g2⟩ := aC2 rx ryr hk
  obtain ⟨z, e4, rz⟩ := g2 d (rM e2)
  subst e4
  exact .inr ⟨a, z, e3, g, q _ H (aP.refl _) rz⟩
 ·exact .inl (aR5 (by simpa using hx) A H x y d v u Q w rx ry e q)
theorem fU (hu : X.A.units + 64 < cLine) (ha : PE X a (tP X.K B f)) (hb : PE X b (tP X.K B g)) (hs : aB8 b := by intro _ _; rfl) : PE X (.Subscript a b pos) (tI X.K B (e2 dIx f g)) :=
 cH (aO0 (aJ0.or (aGc hu)) ha hb hs) fun _ _ _ h => aBz aGd h
theorem aHy : jV X (.builtin "len") (fun xs H Q => ∃ a kvs, xs = [V.ref a] /\ H a = some (.dK kvs) /\ Q (.int kvs.length) H) := by
 intro pins s σ H xs us Q I r h
 obtain ⟨a, kvs, rfl, hk, q⟩ := h
 obtain ⟨u, rfl, ru⟩ := r.one
 obtain rfl : u = Value.ref a := ru
 exact aTb I (.inl hk) fun t s' I' => ⟨.int kvs.length, H, I', ⟨t, rfl⟩, q⟩
theorem aN5 {K : PySem.W.Frag} {A : List Addr} {H : Hp} {ks ds : List D} {v : V} (rx : iY K A H (.dct false ks ds) v) : ∃ a kvs, v = .ref a /\ H a = some (.dK kvs) /\ kvs.length = ks.length := by
 rcases rx with h | ⟨a, kk, o, ds', vs, e, e2, h, ko, r⟩
 ·obtain ⟨a, vs, e, q, r⟩ := tL.mp h
  rcases q with ⟨_, kvs, q1, rfl, _⟩ | ⟨q0, _⟩
  ·exact ⟨a, kvs, e, aX _ _ _ _ q1, by simp⟩
  ·cases q0
 ·cases kk <;> cases e
  rcases ko with ⟨_, kvs, rfl, rfl, _⟩ | ⟨q0, _⟩
  ·exact ⟨a, kvs, e2, h, by simp⟩
  ·cases q0
end
end Pu
namespace Pu
open PySem PySem.Spec PyProof.Rows L2
section
variable {K : PySem.W.Frag} {B A : List Addr} {H : Hp} {st : PSt} {σ : LSt}
theorem pY {i j : Nat} {d : D} {k : OK} {xs : List D} (h : (st.set i (some (.v d)))[j]? = some (some (.o k xs))) : j ≠ i /\ st[j]? = some (some (.o k xs)) := by
 rw [List.getElem?_set] at h
 by_cases e : i = j
 ·subst e
  rw [if_pos rfl] at h
  split at h <;> simp at h
 ·rw [if_neg e] at h
  exact ⟨fun z => e z.symm, h⟩
theorem Le.app {A' : List Addr} {H' : Hp} (l : Le A H A' H') : aP (hide (A ++ B) H) (hide (A' ++ B) H') := fun b u q => by
 have q1 := aX _ _ _ _ q
 have hb : b ∉ A ++ B := fun z => by rw [dY z] at q; cases q
 have q2 : hide A H b = some u := by rw [bO fun z => hb (List.mem_append_left _ z)]; exact q1
 have q3 := l b u q2
 have hb' : b ∉ A' := fun z => by rw [dY z] at q3; cases q3
 rw [bO fun z => (List.mem_append.mp z).elim hb' fun z => hb (List.mem_append_right _ z)]
 exact aX _ _ _ _ q3
theorem RS.set (r : RS K B A H st σ) {d : D} {v : V} (i : Nat) (h : Rep K (hide (A ++ B) H) d v) : RS K B A H (st.set i (some (.v d))) (σ.set i (some v)) where
 len := by rw [List.length_set, List.length_set, r.len]
 own := r.own
 dis := r.dis
 val := fun j d' e => by
  rw [List.getElem?_set] at e
  by_cases hij : i = j
  ·subst hij
   rw [if_pos rfl] at e
   split at e
   ·rename_i hl
    simp at e
    subst e
    exact ⟨v, by rw [List.getElem?_set, if_pos rfl, if_pos (by rw [<- r.len]; exact hl)], h⟩
   ·cases e
  ·rw [if_neg hij] at e
   obtain ⟨u, e1, q⟩ := r.val j d' e
   exact ⟨u, by rw [List.getElem?_set, if_neg hij]; exact e1, q⟩
 lst := fun j kk xs e => by
  obtain ⟨hj, e'⟩ := pY e
  obtain ⟨a, o, vs, e1, m, h1, ko, q, u⟩ := r.lst j kk xs e'
  refine ⟨a, o, vs, by rw [List.getElem?_set, if_neg fun z => hj z.symm]; exact e1, m, h1, ko, q, fun k k' ys ek ek2 => ?_⟩
  obtain ⟨hk, ek'⟩ := pY ek
  rw [List.getElem?_set, if_neg fun z => hk z.symm] at ek2
  exact u k k' ys ek' ek2
theorem aN6 {p : Addr} {o : HO} (w : Own (A ++ B) H) : Own ((p :: A) ++ B) (upd H p o) := fun a ha => by
 by_cases e : a = p
 ·subst e; rw [bV]; rfl
 ·rw [bG e]
  exact w a ((List.mem_cons.mp ha).resolve_left e)
theorem tU {p : Addr} {o : HO} (hp : H p = none) : aP (hide (A ++ B) H) (hide ((p :: A) ++ B) (upd H p o)) := fun b u q => by
 have q1 := aX _ _ _ _ q
 have hb : b ∉ A ++ B := fun z => by rw [dY z] at q; cases q
 have ne : b ≠ p := aU q1 hp
 rw [bO (show b ∉ (p :: A) ++ B from fun z => (List.mem_cons.mp z).elim ne hb), bG ne]
 exact q1
theorem aC3 {p : Addr} {o : HO} (hp : H p = none) : Le A H (p :: A) (upd H p o) := fun b u q => by
 have q1 := aX _ _ _ _ q
 have hb : b ∉ A := fun z => by rw [dY z] at q; cases q
 have ne : b ≠ p := aU q1 hp
 rw [bO fun z => (List.mem_cons.mp z).elim ne hb, bG ne]
 exact q1
theorem RS.setO (r : RS K B A H st σ) {p : Addr} {kk : OK} {o : HO} {ds : List D} {vs : List V} (i : Nat) (hp : H p = none) (ko : KOk K kk p o vs) (h : aW K (hide (A ++ B) H) ds vs) :
  RS K B (p :: A) (upd H p o) (st.set i (some (.o kk ds))) (σ.set i (some (.ref p))) where
 len := by rw [List.length_set, List.length_set, r.len]
 own := aN6 r.own
 dis := fun a ha hb => by
  rcases List.mem_cons.mp ha with rfl | ha
  ·exact r.own.free hp (List.mem_append_right _ hb)
  ·exact r.dis a ha hb
 val := fun j d' e => by
  rw [List.getElem?_set] at e
  by_cases hij : i = j
  ·subst hij
   rw [if_pos rfl] at e
   split at e <;> simp at e
  ·rw [if_neg hij] at e
   obtain ⟨u, e1, q⟩ := r.val j d' e
   exact ⟨u, by rw [List.getElem?_set, if_neg hij]; exact e1, q.mono (tU hp)⟩
 lst := fun j k0 xs e => by
  rw [List.getElem?_set] at e
  by_cases hij : i = j
  ·subst hij
   rw [if_pos rfl] at e
   split at e
   ·rename_i hl
    simp at e
    obtain ⟨e0, e⟩ := e
    subst e0 e
    refine ⟨p, o, vs, by rw [List.getElem?_set, if_pos rfl, if_pos (by rw [<- r.len]; exact hl)], List.mem_cons_self, bV, ko, h.mono (tU hp), fun k k' ys ek ek2 => ?_⟩
    by_cases hk : i = k
    ·exact hk.symm
    ·rw [List.getElem?_set, if_neg hk] at ek ek2
     obtain ⟨a, o', vs', e1, m, h1, _⟩ := r.lst k k' ys ek
     rw [e1] at ek2
     cases ek2
     rw [hp] at h1; cases h1
   ·cases e
  ·rw [if_neg hij] at e
   obtain ⟨a, o', vs', e1, m, h1, ko', q, u⟩ := r.lst j k0 xs e
   have ne : a ≠ p := aU h1 hp
   refine ⟨a, o', vs', by rw [List.getElem?_set, if_neg hij]; exact e1, List.mem_cons_of_mem _ m, by rw [bG ne]; exact h1, ko', q.mono (tU hp), fun k k' ys ek ek2 => ?_⟩
   by_cases hk : i = k
   ·subst hk
    rw [List.getElem?_set, if_pos rfl] at ek2
    split at ek2
    ·simp at ek2; exact absurd ek2.symm ne
    ·cases ek2
   ·rw [List.getElem?_set, if_neg hk] at ek ek2
    exact u k k' ys ek ek2
theorem RS.write (r : RS K B A H st σ) {a : Addr} {i : Nat} {k0 k1 : OK} {o' : HO} {xs ds : List D} {vs' : List V} (hi : st[i]? = some (some (.o k0 xs))) (hs : σ[i]? = some (some (.ref a))) (ko : KOk K k1 a o' vs') (h : aW K (hide (A ++ B) H) ds vs') :
  RS K B A (upd H a o') (st.set i (some (.o k1 ds))) σ /\ Le A H A (upd H a o') := by
 obtain ⟨a', o, vs, e1, m, h1, _, q, u⟩ := r.lst i k0 xs hi
 rw [hs] at e1
 cases e1
 have hh : hide (A ++ B) (upd H a o') = hide (A ++ B) H := tM (List.mem_append_left _ m)
 refine ⟨⟨by rw [List.length_set, r.len], fun b hb => ?_, r.dis, fun j d e => ?_, fun j kj ys e => ?_⟩, ?_⟩
 ·by_cases e : b = a
  ·subst e; rw [bV]; rfl
  ·rw [bG e]; exact r.own b hb
 ·rw [hh]
  rw [List.getElem?_set] at e
  by_cases hij : i = j
  ·subst hij
   rw [if_pos rfl] at e
   split at e <;> simp at e
  ·rw [if_neg hij] at e
   exact r.val j d e
 ·rw [hh]
  have ne : ∀ {k : Nat} {kz : OK} {zs : List D}, (st.set i (some (.o k1 ds)))[k]? = some (some (.o kz zs)) -> ∃ kw ws, st[k]? = some (some (.o kw ws)) := fun {k kz zs} ek => by
   rw [List.getElem?_set] at ek
   by_cases hk : i = k
   ·subst hk; exact ⟨_, _, hi⟩
   ·rw [if_neg hk] at ek; exact ⟨_, _, ek⟩
  rw [List.getElem?_set] at e
  by_cases hij : i = j
  ·subst hij
   rw [if_pos rfl] at e
   split at e
   ·simp at e
    obtain ⟨e0, e⟩ := e
    subst e0 e
    exact ⟨a, o', vs', hs, m, bV, ko, h, fun k kz zs ek ek2 => let ⟨kw, ws, ew⟩ := ne ek; u k kw ws ew ek2⟩
   ·cases e
  ·rw [if_neg hij] at e
   obtain ⟨c, oc, ws, c1, cm, ch, kc, cq, cu⟩ := r.lst j kj ys e
   have hca : c ≠ a := fun z => by subst z; exact hij (u j kj ys e c1).symm
   exact ⟨c, oc, ws, c1, cm, by rw [bG hca]; exact ch, kc, cq, fun k kz zs ek ek2 => let ⟨kw, ws, ew⟩ := ne ek; cu k kw ws ew ek2⟩
 ·unfold Le
  rw [tM m]
  exact aP.refl _
theorem RS.fz1 (r : RS K B A H st σ) (i : Nat) : ∃ A', RS K B A' H (Pu.fz1 st i) σ /\ Le A H A' H := by
 unfold Pu.fz1
 split
 ·rename_i kk xs e
  obtain ⟨a, o, vs, e1, m, h1, ko, q, u⟩ := r.lst i kk xs e
  have hsub : ∀ b ∈ A.filter (fun c => decide (c ≠ a)), b ∈ A := fun b hb => (List.mem_filter.mp hb).1
  have hsub2 : ∀ b ∈ A.filter (fun c => decide (c ≠ a)) ++ B, b ∈ A ++ B := fun b hb => (List.mem_append.mp hb).elim (fun z => List.mem_append_left _ (hsub b z)) (List.mem_append_right _)
  have sm : aP (hide (A ++ B) H) (hide (A.filter (fun c => decide (c ≠ a)) ++ B) H) := dI hsub2
  have hout : a ∉ A.filter (fun c => decide (c ≠ a)) ++ B := fun z => (List.mem_append.mp z).elim (fun z => of_decide_eq_true (List.mem_filter.mp z).2 rfl) (r.dis a m)
  refine ⟨A.filter fun c => decide (c ≠ a), ⟨by rw [List.length_set, r.len], fun b hb => r.own b (hsub2 b hb), fun b hb => r.dis b (hsub b hb), fun j d ej => ?_, fun j kj ys ej => ?_⟩, dI hsub⟩
  ·rw [List.getElem?_set] at ej
   by_cases hij : i = j
   ·subst hij
    rw [if_pos rfl] at ej
    split at ej
    ·simp at ej
     subst ej
     exact ⟨_, e1, ko.rep (by rw [bO hout]; exact h1) (q.mono sm)⟩
    ·cases ej
   ·rw [if_neg hij] at ej
    obtain ⟨v, e2, q2⟩ := r.val j d ej
    exact ⟨v, e2, q2.mono sm⟩
  ·obtain ⟨hj, ej'⟩ := pY ej
   obtain ⟨c, oc, ws, c1, cm, ch, kc, cq, cu⟩ := r.lst j kj ys ej'
   have hca : c ≠ a := fun z => by subst z; exact hj (u j kj ys ej' c1)
   exact ⟨c, oc, ws, c1, List.mem_filter.mpr ⟨cm, decide_eq_true hca⟩, ch, kc, cq.mono sm, fun k kz zs ek ek2 => cu k kz zs (pY ek).2 ek2⟩
 ·exact ⟨A, r, Le.refl⟩
theorem RS.fz (is : List Nat) : ∀ {A : List Addr} {st : PSt}, RS K B A H st σ -> ∃ A', RS K B A' H (is.foldl Pu.fz1 st) σ /\ Le A H A' H := by
 induction is with
 | nil => exact fun r => ⟨_, r, Le.refl⟩
 | cons i is ih =>
  intro A st r
  obtain ⟨A1, r1, l1⟩ := r.fz1 i
  obtain ⟨A2, r2, l2⟩ := ih r1
  exact ⟨A2, r2, l1.trans l2⟩
end
section
variable {X : Cx} {B : List Addr} {a b e : Expr} {f g : Ex} {pos : Pos} {bd bd' : Bd} {sm : Stmt} {rest : List Stmt}
theorem gG : PSs X [] (tS X.K B dG) := lW aFg (by
 rintro Dn σ H ⟨A, st, r, rs, hr, p⟩
 cases hr
 exact p A σ H Le.refl rs)
theorem aV (h1 : PS X sm (tS X.K B bd)) (h2 : PSs X rest (tS X.K B bd')) : PSs X (sm :: rest) (tS X.K B (bQ bd bd')) := by
 refine lW (rW h1 h2) ?_
 rintro Dn σ H ⟨A, st, r, rs, hr, p⟩
 obtain ⟨x, hx, h3⟩ := R.ok_of hr
 refine ⟨A, st, x, rs, hx, ?_⟩
 cases x with
 | nx s1 => exact fun A' σ' H' l rs' => ⟨A', s1, r, rs', h3, p.mono l⟩
 | rt d => cases h3; exact p
 | bk s1 => cases h3; exact p
 | ct s1 => cases h3; exact p
theorem cA (h1 : PS X sm (tS X.K B bd)) : PSs X [sm] (tS X.K B bd) := wK h1
theorem aR8 (is : List Nat) (h : PS X sm (tS X.K B bd)) : PS X sm (tS X.K B (sFz is bd)) := dU h (by
 rintro Dn σ H ⟨A, st, r, rs, hr, p⟩
 obtain ⟨A', rs', l⟩ := RS.fz is rs
 exact ⟨A', _, r, rs', hr, p.mono l⟩)
theorem dC (h : PE X e (tI X.K B f)) : PS X (.Return (some e) pos) (tS X.K B (eF f)) := dU (aE5 h) (by
 rintro Dn σ H ⟨A, st, r, rs, hr, p⟩
 obtain ⟨d, hd, h3⟩ := R.ok_of hr
 cases h3
 exact ⟨A, st, d, rs, hd, fun v H' s q => p A v H' (Le.of s) q⟩)
theorem eZ (i : Nat) {x : Str} {pos' : Pos} (he : PE X e (tI X.K B f)) (hN : X.N.Nodup) (hi : X.N[i]? = some x := by rfl) (hx : Loc X.env.scope x := by first | exact Or.inl rfl | exact Or.inr rfl) (hs : swapsWith e (some (.Name x pos')) pos.line X.env = pure false := by rfl)
  (hf : X.fn x = true \/ X.env.scope.names.lookup x = some .local := by first | exact .inl rfl | exact .inr rfl | assumption) : PS X (.Assign [.Name x pos'] e pos) (tS X.K B (eO i f)) := dU (uH hN hi hx he hs hf) (by
 rintro Dn σ H ⟨A, st, r, rs, hr, p⟩
 obtain ⟨d, hd, h3⟩ := R.ok_of hr
 cases h3
 exact ⟨A, st, d, rs, hd, fun v H' s q => p A _ H' (Le.of s) ((rs.mono s).set i q)⟩)
def tF (K : PySem.W.Frag) (B : List Addr) (f : Ex) : TE := fun σ H Q => ∃ A st ds, RS K B A H st σ /\ f st = .ok (.lst ds) /\ ∀ p vs H', aP H H' -> H' p = none -> aW K (hide (A ++ B) H') ds vs -> Q (.ref p) (upd H' p (.lst vs))
theorem aGe {es : List Expr} {r : Exs} (h : PA X es (tA X.K B r)) : PE X (.List es pos) (tF X.K B (qG r)) := by
 refine cH (aIw h) ?_
 rintro σ H Q ⟨A, st, d, rs, hd, q⟩
 obtain ⟨xs, hx, h2⟩ := R.ok_of hd
 obtain ⟨c, h3⟩ := aJ h2
 cases h3
 exact ⟨A, st, _, rs, hx, fun vs H1 s1 r1 => ⟨by rw [r1.length]; exact lim c, fun p hp => q p vs H1 s1 hp r1⟩⟩
theorem uW (i : Nat) {x : Str} {pos' : Pos} (he : PE X e (tF X.K B f)) (hN : X.N.Nodup) (hi : X.N[i]? = some x := by rfl) (hx : Loc X.env.scope x := by first | exact Or.inl rfl | exact Or.inr rfl) (hs : swapsWith e (some (.Name x pos')) pos.line X.env = pure false := by rfl)
  (hf : X.fn x = true \/ X.env.scope.names.lookup x = some .local := by first | exact .inl rfl | exact .inr rfl | assumption) : PS X (.Assign [.Name x pos'] e pos) (tS X.K B (pA i f)) := dU (uH hN hi hx he hs hf) (by
 rintro Dn σ H ⟨A, st, r, rs, hr, p⟩
 obtain ⟨d, hd, h3⟩ := R.ok_of hr
 cases d <;> first | (cases h3; done) | skip
 cases h3
 exact ⟨A, st, _, rs, hd, fun a vs H' s hn q => p (a :: A) _ _ ((Le.of s).trans (aC3 hn)) ((rs.mono s).setO (kk := .l) i hn rfl q)⟩)
theorem mQ {c : Expr} {t : Ex} {x y : List Stmt} (hc : PT X c (tT X.K B t)) (ha : PSs X x (tS X.K B bd)) (hb : PSs X y (tS X.K B bd')) : PS X (.If c x y pos) (tS X.K B (sIf t bd bd')) := dU (aNy hc ha hb) (by
 rintro Dn σ H ⟨A, st, r, rs, hr, p⟩
 obtain ⟨d, hd, h3⟩ := R.ok_of hr
 obtain ⟨k, rfl, h4⟩ := oY h3
 refine ⟨A, st, k, rs, hd, fun H1 s1 => ?_⟩
 cases k with
 | true => exact ⟨A, st, r, rs.mono s1, h4, p.mono (Le.of s1)⟩
 | false => exact ⟨A, st, r, rs.mono s1, h4, p.mono (Le.of s1)⟩)
theorem cV (i : Nat) {x : Str} (hN : X.N.Nodup) (hi : X.N[i]? = some x := by rfl) (hx : Loc X.env.scope x := by first | exact Or.inl rfl | exact Or.inr rfl)
  (hf : X.fn x = true \/ X.env.scope.names.lookup x = some .local := by first | exact .inl rfl | exact .inr rfl | assumption) : PG X (.Name x pos) (tG X.K B (tgN i)) := aKh (aLp hN hi hx hf) (by
 rintro v σ H Q ⟨A, st, d, s1, rs, hr, hg, q⟩
 cases hg
 exact q _ (rs.set i hr))
def tGs (K : PySem.W.Frag) (B : List Addr) (is : List Nat) : TGs := fun vs σ H Q => ∃ A st ds s1, RS K B A H st σ /\ aW K (hide (A ++ B) H) ds vs /\ lE is ds st = .ok s1 /\ ∀ σ', RS K B A H s1 σ' -> Q σ' H
theorem aGf {es : List Expr} {t t' : TGs} (h : PGs X es t) (m : ∀ v σ H Q, t' v σ H Q -> t v σ H Q) : PGs X es t' := fun pins s σ H v u Q I r q => h pins s σ H v u Q I r (m v σ H Q q)
theorem uX : PGs X [] (tGs X.K B []) := aGf aLq (by
 rintro v σ H Q ⟨A, st, ds, s1, rs, hr, hg, q⟩
 cases ds with
 | nil => cases hg; exact ⟨cC.mp hr, q σ rs⟩
 | cons _ _ => exact nomatch hg)
theorem gM (i : Nat) {is : List Nat} {x : Str} {es : List Expr} (h2 : PGs X es (tGs X.K B is)) (hN : X.N.Nodup) (hi : X.N[i]? = some x := by rfl) (hx : Loc X.env.scope x := by first | exact Or.inl rfl | exact Or.inr rfl)
  (hf : X.fn x = true \/ X.env.scope.names.lookup x = some .local := by first | exact .inl rfl | exact .inr rfl | assumption)
  (hs : (assignEach (.Name x pos :: es) X.env).map (·.2) = assign (.Name x pos) X.env :: (assignEach es X.env).map (·.2) := by rfl) : PGs X (.Name x pos :: es) (tGs X.K B (i :: is)) := aGf (aIn (cV i (pos := pos) hN hi hx hf) h2 hs) (by
 rintro v σ H Q ⟨A, st, ds, s1, rs, hr, hg, q⟩
 cases ds with
 | nil => exact nomatch hg
 | cons d ds =>
  obtain ⟨u, r, e, r1, r2⟩ := bB.mp hr
  exact ⟨u, r, e, A, st, d, st.set i (some (.v d)), rs, r1, rfl, fun σ' rs' => ⟨A, _, ds, s1, rs', r2, hg, q⟩⟩)
theorem yI {h h' : Heap} {l it : Addr} {items : Array Value} (hl : h.IsList l items) (s : Heap.SameBut it h h') (hne : l ≠ it) : h'.IsList l items := by
 obtain ⟨o, e, r⟩ := hl
 exact ⟨o, (s.2 l hne).trans e, r⟩
theorem aAs {M : Program} {w : World} {A : Around} {E : Value -> Shared -> Prop} {it t : Addr} {items : Array Value} (hne : t ≠ it) : ∀ (n i : Nat) (s : Shared) (Q : List Value -> Shared -> Prop), s.heap.IsListIter it t i -> s.heap.IsList t items -> i + n <= items.size ->
  (∀ h', h'.IsListIter it t (i + n) -> Heap.SameBut it s.heap h' -> Q ((items.toList.drop i).take n) { s with heap := h' }) -> wpAny (model M w) A (draw (.ref it) n) Q E s
 | 0, i, s, Q, hit, _, _, hQ => by
  show wpAny _ _ (pure []) Q E s
  exact wpAny_pure (by simpa using hQ s.heap hit (Heap.SameBut.refl ..))
 | n + 1, i, s, Q, hit, ht, hle, hQ => by
  have hlt : i < items.size := by omega
  show wpAny _ _ (pyNext (.ref it) >>= _) Q E s
  refine wpAny_bind (wpAny_pyNext_list_item hit ht (x := items[i]) (by simp [hlt]) fun h1 hit1 hs1 => ?_)
  refine wpAny_bind (wpAny_holding (aAs hne n (i + 1) _ _ hit1 (yI ht hs1 hne) (by omega) fun h2 hit2 hs2 => wpAny_pure ?_))
  have hd : items.toList.drop i = items[i] :: items.toList.drop (i + 1) := by simp [List.drop_eq_getElem_cons, hlt]
  have := hQ h2 (by rw [show i + (n + 1) = i + 1 + n by omega]; exact hit2) (hs1.trans hs2)
  rw [hd, List.take_succ_cons] at this
  exact this
theorem tV {M : Program} {w : World} {A : Around} {E : Value -> Shared -> Prop} {s : Shared} {env : Env} {elts : List Expr} {x1 : Nat} {pos : Pos} {t : Addr} {items : Array Value} {Q : Unit -> Shared -> Prop} (hh : A.handled = none) (ht : s.heap.IsList t items)
  (hn : (assignEach elts env).length = items.size) (hstar : (assignEach elts env).findIdx? (·.1) = none)
  (h : ∀ h', Heap.ExtBut s.heap.objs.size s.heap h' -> wpAny (model M w) A (assignInOrder ((assignEach elts env).map (·.2)) items.toList) Q E { s with heap := h' }) :
  wpAny (model M w) A (assign (.Tuple elts x1 pos) env (.ref t)) Q E s := by
 have hlt : t ≠ s.heap.objs.size := by obtain ⟨o, ho, _⟩ := ht; exact Nat.ne_of_lt (Heap.lt_size ho)
 rw [assign_Tuple]
 refine wpAny_bind (wpAny_standAt ?_)
 unfold unpack
 rw [hn, hstar]
 refine wpAny_bind (wpAny_holding ?_)
 unfold unpackItems
 refine wpAny_bind ?_
 unfold notIterableAtAll
 refine wpAny_bind (wpAny_specialOf ht.typeIs PySem.F.slot_list_iter.lookup ?_)
 refine wpAny_pure ?_
 simp only [Bool.false_eq_true, if_false]
 refine wpAny_bind (wpAny_holding (wpAny_pyIter_list ht ?_))
 have ht0 : (s.heap.push { cls := .type "list_iterator", data := .fields #[.ref t, rawInt 0] }).IsList t items := by
  obtain ⟨o, ho, r⟩ := ht
  exact ⟨o, Heap.get?_push_of_some _ ho, r⟩
 refine wpAny_bind (wpAny_holding (aAs hlt items.size 0 _ _ ⟨_, Heap.get?_push_size _ rfl, rfl, rfl⟩ ht0 (by omega) fun h1 hit1 hs1 => ?_))
 have hall : List.take items.size (List.drop 0 items.toList) = items.toList := by
  rw [List.drop_zero]; exact List.take_of_length_le (by simp)
 rw [hall]
 rw [if_neg (by simp)]
 refine wpAny_bind (wpAny_holding (wpAny_pyNext_list_end hh hit1 (yI ht0 hs1 hlt) (by simp) fun h2 he2 => ?_))
 simp only [Option.isSome_none, Bool.false_eq_true, if_false]
 refine wpAny_pure (h h2 fun b o hb e => he2 b o hb (hs1.extBut b o hb (Heap.get?_push_of_some _ e)))
def aXe (K : PySem.W.Frag) (n : Nat) (t : TGs) : TG := fun v σ H Q => ∃ a xs, v = .ref a /\ (SqT K H a xs \/ SqL K H a xs) /\ xs.length = n /\ t xs σ H Q
theorem aR9 {es : List Expr} {k : Nat} {t : TGs} {n : Nat} (hc : X.calm = true) (h : PGs X es t)
  (hn : (assignEach es X.env).length = n := by rfl) (hst : (assignEach es X.env).findIdx? (·.1) = none := by rfl) : PG X (.Tuple es k pos) (aXe X.K n t) := by
 intro pins s σ H v u Q I r hw
 obtain ⟨a, xs, e1, hq, hl, hw⟩ := hw
 rcases hq with hq | hq
 ·exact aPd hc h hn hst pins s σ H v u Q I r ⟨a, xs, e1, hq, hl, hw⟩
 ·subst e1
  cases r
  obtain ⟨its, rv, ht, hz⟩ := I.list hq
  refine tV (I.ok.hd hc) ht.isList (by simp [hn, <- hl, rv.length]) hst fun h' hx => ?_
  have I1 : Inv X pins σ H { s with heap := h' } := I.kept (t' := s.toks) fun b o e => hx b o (Nat.ne_of_lt (Heap.lt_size e)) e
  exact h pins _ σ H xs _ Q I1 (by simpa using rv) hw
theorem yJ {s1 : PSt} : ∀ (is : List Nat) (ds : List D) (st : PSt), lE is ds st = .ok s1 -> ds.length = is.length := by
 intro is
 induction is with
 | nil => intro ds st h; cases ds with | nil => rfl | cons _ _ => exact nomatch h
 | cons i is ih => intro ds st h; cases ds with | nil => exact nomatch h | cons _ ds => exact congrArg (· + 1) (ih ds _ h)
theorem aAt {is : List Nat} {es : List Expr} {k : Nat} (hc : X.calm = true) (h : PGs X es (tGs X.K B is)) (hn : (assignEach es X.env).length = is.length := by rfl) (hst : (assignEach es X.env).findIdx? (·.1) = none := by rfl) : PG X (.Tuple es k pos) (tG X.K B (tgT is)) := aKh (aR9 hc h hn hst) (by
 rintro v σ H Q ⟨A, st, d, s1, rs, hr, hg, q⟩
 cases d <;> first | (cases hg; done) | skip
 ·rename_i ds
  obtain ⟨a, vs, e, h1, h2⟩ := aY hr
  exact ⟨a, vs, e, .inl (pN (aX _ _) h1), by rw [h2.length]; exact yJ is ds st hg, A, st, ds, s1, rs, h2, hg, q⟩
 ·rename_i ds
  obtain ⟨a, vs, e, h1, h2⟩ := bL.mp hr
  exact ⟨a, vs, e, .inr ((aX _ _).seq h1), by rw [h2.length]; exact yJ is ds st hg, A, st, ds, s1, rs, h2, hg, q⟩)
theorem aUs {tg : Expr} {t : Tg} (he : PE X e (tI X.K B f)) (hg : PG X tg (tG X.K B t)) (hs : swapsWithSole [tg] e pos.line X.env = pure false := by rfl) (hw : swappedStores [tg] e X.env = pure none := by rfl)
  (h1 : (assignEach [tg] X.env).map (·.2) = [assign tg X.env] := by rfl) : PS X (.Assign [tg] e pos) (tS X.K B (aPx t f)) := dU (aIo he hg hs hw h1) (by
 rintro Dn σ H ⟨A, st, r, rs, hr, p⟩
 obtain ⟨d, hd, h3⟩ := R.ok_of hr
 obtain ⟨s1, hs1, h4⟩ := R.ok_of h3
 cases h4
 exact ⟨A, st, d, rs, hd, fun v H' s q => ⟨A, st, d, s1, rs.mono s, q, hs1, fun σ' rs' => p A σ' H' (Le.of s) rs'⟩⟩)
theorem tW {tg iter : Expr} {body : List Stmt} {t : Tg} {it : ItE} (hi : L2.PI X tg iter (tIt X.K B it)) (hg : PG X tg (tG X.K B t)) (hb : PSs X body (tS X.K B bd)) (hp : PassesOwn (model X.prog X.w) X.A X.env X.xe) (hc : X.calm = true)
  (hs : ∀ x, foldedSetIterable iter X.env x = pure x := by intro _; rfl) : PS X (.For tg iter body [] pos) (tS X.K B (sH t it bd)) := dU (aPg hp hc hi hg hb hs) (by
 rintro Dn σ H ⟨A, st, r, rs, hr, p⟩
 obtain ⟨ds, hd, h3⟩ := R.ok_of hr
 refine ⟨A, st, ds, rs, hd, fun J H1 s1 ito => ?_⟩
 refine ⟨fun i m σ' H' => ∃ A' st', m = ds.length - i /\ i <= ds.length /\ RS X.K B A' H' st' σ' /\ forR t bd (ds.drop i) st' = .ok r /\ Le A H1 A' H', ⟨ds.length, A, st, by simp, Nat.zero_le _, rs.mono s1, by rw [List.drop_zero]; exact h3, Le.refl⟩, ?_⟩
 rintro i m σ' H' ⟨A', st', rfl, hle, rs', hf, l⟩
 obtain ⟨i1, i2⟩ := ito A' H' l rs'.own i
 by_cases hlt : i < ds.length
 ·have hd' : ds[i]? = some ds[i] := List.getElem?_eq_getElem hlt
  obtain ⟨go, yl⟩ := i1 _ hd'
  rw [List.drop_eq_getElem_cons hlt] at hf
  obtain ⟨s2, hs2, h5⟩ := R.ok_of hf
  obtain ⟨fl, hfl, h6⟩ := R.ok_of h5
  refine .inr ⟨go, fun σ2 H2 => ∃ A2 st2, i + 1 <= ds.length /\ RS X.K B A2 H2 st2 σ2 /\ forR t bd (ds.drop (i + 1)) st2 = .ok r /\ Le A H1 A2 H2, ?_, fun x H2 y => ?_⟩
  ·rintro σ2 H2 ⟨A2, st2, hle2, rs2, hf2, l2⟩
   exact ⟨ds.length - (i + 1), by omega, A2, st2, rfl, hle2, rs2, hf2, l2⟩
  ·obtain ⟨sm, rx⟩ := yl x H2 y
   have l5 : Le A H1 A' H2 := l.trans (Le.of sm)
   refine ⟨A', st', ds[i], s2, rs'.mono sm, rx, hs2, fun σ3 rs3 => ⟨A', s2, fl, rs3, hfl, ?_⟩⟩
   cases fl with
   | nx s4 => exact fun A4 σ4 H4 l4 rs4 => ⟨A4, s4, hlt, rs4, h6, l5.trans l4⟩
   | ct s4 => exact fun A4 σ4 H4 l4 rs4 => ⟨A4, s4, hlt, rs4, h6, l5.trans l4⟩
   | bk s4 => cases h6; exact p.mono ((Le.of s1).trans l5)
   | rt d => cases h6; exact p.mono ((Le.of s1).trans l5)
 ·have e : i = ds.length := by omega
  subst e
  rw [List.drop_length] at hf
  cases hf
  exact .inl ⟨i2 (Nat.le_refl _), p A' σ' H' ((Le.of s1).trans l) rs'⟩)
theorem aGg (n : Nat) {c : Expr} {t : Ex} {body : List Stmt} (hc : PT X c (tT X.K B t)) (hb : PSs X body (tS X.K B bd)) (hp : PassesOwn (model X.prog X.w) X.A X.env X.xe) : PS X (.While c body [] pos) (tS X.K B (aBh n t bd)) := dU (aIp hp hc hb) (by
 rintro Dn σ H ⟨A, st, r, rs, hr, p⟩
 refine ⟨fun m σ' H' => ∃ A' st', RS X.K B A' H' st' σ' /\ gP t bd m st' = .ok r /\ Le A H A' H', ⟨n, A, st, rs, hr, Le.refl⟩, ?_⟩
 rintro m σ' H' ⟨A', st', rs', hw, l⟩
 cases m with
 | zero => exact nomatch hw
 | succ m =>
  obtain ⟨d, hd, h3⟩ := R.ok_of hw
  obtain ⟨k, rfl, h4⟩ := oY h3
  refine ⟨A', st', k, rs', hd, fun H1 s1 => ?_⟩
  cases k with
  | false =>
   cases h4
   exact p A' σ' H1 (l.trans (Le.of s1)) (rs'.mono s1)
  | true =>
   obtain ⟨fl, hfl, h6⟩ := R.ok_of h4
   refine ⟨fun σ2 H2 => ∃ A2 st2, RS X.K B A2 H2 st2 σ2 /\ gP t bd m st2 = .ok r /\ Le A H A2 H2, ?_, A', st', fl, rs'.mono s1, hfl, ?_⟩
   ·rintro σ2 H2 ⟨A2, st2, rs2, hf2, l2⟩
    exact ⟨m, Nat.lt_succ_self m, A2, st2, rs2, hf2, l2⟩
   ·cases fl with
    | nx s4 => exact fun A4 σ4 H4 l4 rs4 => ⟨A4, s4, rs4, h6, l.trans ((Le.of s1).trans l4)⟩
    | ct s4 => exact fun A4 σ4 H4 l4 rs4 => ⟨A4, s4, rs4, h6, l.trans ((Le.of s1).trans l4)⟩
    | bk s4 => cases h6; exact p.mono (l.trans (Le.of s1))
    | rt d => cases h6; exact p.mono (l.trans (Le.of s1)))
theorem aRa {K : PySem.W.Frag} {A : List Addr} {H : Hp} {ds : List D} {vs : List V} {l : Addr} (hq : SqL K (hide (A ++ B) H) l vs) (r : aW K (hide (A ++ B) H) ds vs) : aHw K B A H (Itl K l) ds := by
 intro A' H' le own i
 have hq' : SqL K H' l vs := (aX _ _).seq ((Le.app le).seq hq)
 refine ⟨fun d hd => ?_, fun hl => ⟨vs, hq', by rw [r.length]; exact hl⟩⟩
 obtain ⟨v, hv, rv⟩ := r.get hd
 refine ⟨⟨vs, v, hq', hv⟩, fun x H3 y => ⟨by rw [y.1]; exact aP.refl _, ?_⟩⟩
 have hx := y.2 vs hq'
 rw [y.1]
 rw [hv] at hx
 cases hx
 exact rv.mono (Le.app le)
theorem aRb {K : PySem.W.Frag} {A : List Addr} {H : Hp} {ds : List D} {vs : List V} {l : Addr} (hq : SqT K (hide (A ++ B) H) l vs) (r : aW K (hide (A ++ B) H) ds vs) : aHw K B A H (Itt K l) ds := by
 intro A' H' le own i
 have hq' : SqT K H' l vs := pN (aX _ _) (pN (Le.app le) hq)
 refine ⟨fun d hd => ?_, fun hl => ⟨vs, hq', by rw [r.length]; exact hl⟩⟩
 obtain ⟨v, hv, rv⟩ := r.get hd
 refine ⟨⟨vs, v, hq', hv⟩, fun x H3 y => ⟨by rw [y.1]; exact aP.refl _, ?_⟩⟩
 have hx := y.2 vs hq'
 rw [y.1]
 rw [hv] at hx
 cases hx
 exact rv.mono (Le.app le)
theorem aKn {K : PySem.W.Frag} {A : List Addr} {H : Hp} {lo : Int} {n : Nat} : aHw K B A H (Itr lo n) (dR lo n) := by
 intro A' H' le own i
 have hl : (dR lo n).length = n := by simp [dR]
 refine ⟨fun d hd => ?_, fun h => by rw [hl] at h; exact h⟩
 have hi : i < n := by
  have := (List.getElem?_eq_some_iff.mp hd).1
  rw [hl] at this; exact this
 have e : d = .int (lo + (i : Int)) := by
  unfold dR at hd
  rw [List.getElem?_map, List.getElem?_range hi] at hd
  exact (Option.some.inj hd).symm
 subst e
 exact ⟨hi, fun x H3 y => ⟨by rw [y.1]; exact aP.refl _, aN.mpr y.2⟩⟩
def Its (z : List Nat) : It := ⟨fun i _ => i < z.length, fun i H x H' => H' = H /\ ∃ c, z[i]? = some c /\ x = .str ⟨#[c]⟩, fun i _ => z.length <= i⟩
theorem aKo {P : Program} {w : World} {K : PySem.W.Frag} {tg : Expr} {z : List Nat} {it : Addr} {n : String} {t : Tok} (hn : n = "str_ascii_iterator" \/ n = "str_iterator") : Turn P w K tg (Its z) [it] it (fun i h => h.IsStrIter it n ⟨z.toArray⟩ t i) where
 mem := by simp
 obj := fun i h st b hb => by
  have e : b = it := by simpa using hb
  subst e
  obtain ⟨o, e, c, d⟩ := st
  exact ⟨o, e, fun v z => by rw [d] at z; cases z⟩
 keep := fun i h h' st k => let ⟨o, e, r⟩ := st; ⟨o, k it (by simp) o e, r⟩
 item := by
  intro X hP hw hK hc i pins s σ H E I hf st hg
  subst hP hw hK
  obtain ⟨f0, f1, f2, f3, f4, f5⟩ := hf it (by simp)
  have fin : ∀ v h' tk, SignAt ⟨z.toArray⟩ i v -> Heap.IsStrIter h' it n ⟨z.toArray⟩ t (i + 1) -> (∀ b o, b ∉ [it] -> s.heap.get? b = some o -> h'.get? b = some o) ->
    ∃ u, some v = some u /\ wpAny (model X.prog X.w) X.A (letOwnedTupleGo tg (.ref it) u) (fun _ s2 => ∃ x H', Inv X pins σ H' s2 /\ RelV x u /\ (Its z).yld i H x H' /\ Heap.IsStrIter s2.heap it n ⟨z.toArray⟩ t (i + 1) /\ ∀ b ∈ [it], H' b = none) E { s with heap := h', toks := tk } := by
   intro v h' tk hv st' kk
   obtain ⟨c, u, hcu, rfl⟩ := hv
   have I1 : Inv X pins σ H { s with heap := h', toks := tk } := I.turned (fun b o hb e => kk b o (by simpa using hb) e) f0 f1 f3 f4 f5
   obtain ⟨o, e, c', d⟩ := id st'
   refine ⟨_, rfl, aFh (s := { s with heap := h', toks := tk }) e c' d (by rcases hn with rfl | rfl <;> decide) ⟨.str ⟨#[c]⟩, H, I1, ⟨u, rfl⟩, ⟨rfl, c, ?_, rfl⟩, st', fun b hb => (hf b hb).1⟩⟩
   simpa using hcu
  have hg2 : i < z.length := hg
  have hg' : i < (⟨z.toArray⟩ : Str).cps.size := by simpa using hg2
  rcases hn with rfl | rfl
  ·exact (Walks.strAscii (prog := X.prog) (w := X.w) (I.ok.hd hc) it ⟨z.toArray⟩ t).item i s _ _ hg' st fun v h' tk hv st' kk => fin v h' tk hv st' kk
  ·exact (Walks.strWide (prog := X.prog) (w := X.w) (I.ok.hd hc) it ⟨z.toArray⟩ t).item i s _ _ hg' st fun v h' tk hv st' kk => fin v h' tk hv st' kk
 done := by
  intro X hP hw hK hc i pins s σ H E I hf st hg
  subst hP hw hK
  obtain ⟨f0, f1, f2, f3, f4, f5⟩ := hf it (by simp)
  have hg2 : z.length <= i := hg
  rcases hn with rfl | rfl
  ·exact wpAny_pyNext_ascii_end (I.ok.hd hc) st (by simpa using hg2) fun h' eb => ⟨rfl, I.turned (t' := s.toks) (fun b o hb e => eb b o hb e) f0 f1 f3 f4 f5⟩
  ·exact wpAny_pyNext_wide_end (I.ok.hd hc) st (by simpa using hg2) fun h' eb => ⟨rfl, I.turned (t' := s.toks) (fun b o hb e => eb b o hb e) f0 f1 f3 f4 f5⟩
 self := fun _ _ _ _ _ st h => by
  rcases hn with rfl | rfl
  ·exact wpAny_pyIter_striter_ascii st h
  ·exact wpAny_pyIter_striter_wide st h
theorem aRc {K : PySem.W.Frag} {A : List Addr} {H : Hp} {z : List Nat} : aHw K B A H (Its z) (z.map fun c => .str [c]) := by
 intro A' H' le own i
 refine ⟨fun d hd => ?_, fun h => (by simpa using h : z.length <= i)⟩
 rw [List.getElem?_map] at hd
 cases hz : z[i]? with
 | none => rw [hz] at hd; cases hd
 | some c =>
  rw [hz] at hd
  cases hd
  refine ⟨(List.getElem?_eq_some_iff.mp hz).1, fun x H3 y => ⟨by rw [y.1]; exact aP.refl _, ?_⟩⟩
  obtain ⟨c', hc', rfl⟩ := y.2
  rw [hz] at hc'
  cases hc'
  exact aR.mpr rfl
def aXf (K : PySem.W.Frag) (tl : TE) : TI := fun σ H R => tl σ H fun x H1 => (∃ a, x = .ref a /\ (((∃ xs, SqL K H1 a xs) /\ R (Itl K a) H1) \/ ((∃ xs, SqT K H1 a xs) /\ R (Itt K a) H1))) \/ ∃ z : List Nat, x = .str ⟨z.toArray⟩ /\ R (Its z) H1
theorem aRd {tg l : Expr} {tl : TE} (hl : PE X l tl) : L2.PI X tg l (aXf X.K tl) := by
 intro pins s σ H R I h
 refine thn (hl pins s σ H _ I h) fun v s1 ⟨x, H1, I1, r1, q1⟩ => ?_
 rcases q1 with ⟨a, e, q⟩ | ⟨z, rfl, q⟩
 rotate_left
 ·obtain ⟨t, rfl⟩ := r1
  refine wpAny_pyIter_strU ?_
  refine ⟨s1.heap.objs.size, [s1.heap.objs.size], _, _, H1, rfl, I1.kept (t' := s1.toks) fun b o e => Heap.get?_push_of_some _ e, aKo (z := z) (n := strIterType ⟨z.toArray⟩) (t := t) (by unfold strIterType; split <;> simp), ⟨_, Heap.get?_push_size _ rfl, rfl, rfl⟩, fun b hb => ?_, q⟩
  have e : b = s1.heap.objs.size := by simpa using hb
  subst e
  exact I1.fpOk (Nat.le_refl _) (I1.hok.fresh (Nat.le_refl _))
 subst e
 cases r1
 rcases q with ⟨⟨xs, hq⟩, q⟩ | ⟨⟨xs, hq⟩, q⟩
 ·obtain ⟨its, rv, p, hz⟩ := I1.list hq
  refine wpAny_pyIter_list p.isList ?_
  refine ⟨s1.heap.objs.size, [s1.heap.objs.size], _, _, H1, rfl, I1.kept (t' := s1.toks) fun b o e => Heap.get?_push_of_some _ e, aH0 a _, ⟨_, Heap.get?_push_size _ rfl, rfl, rfl⟩, fun b hb => ?_, q⟩
  have e : b = s1.heap.objs.size := by simpa using hb
  subst e
  exact I1.fpOk (Nat.le_refl _) (I1.hok.fresh (Nat.le_refl _))
 ·obtain ⟨its, rv, p, hz⟩ := I1.tuple hq
  refine wpAny_pyIter_tuple (show s1.heap.IsTuple a its.toArray from p) ?_
  refine ⟨s1.heap.objs.size, [s1.heap.objs.size], _, _, H1, rfl, I1.kept (t' := s1.toks) fun b o e => Heap.get?_push_of_some _ e, aE6 a _, ⟨_, Heap.get?_push_size _ rfl, rfl, rfl⟩, fun b hb => ?_, q⟩
  have e : b = s1.heap.objs.size := by simpa using hb
  subst e
  exact I1.fpOk (Nat.le_refl _) (I1.hok.fresh (Nat.le_refl _))
theorem mR {tg l : Expr} (hl : PE X l (tI X.K B f)) : L2.PI X tg l (tIt X.K B (itE f)) := aEw (aRd hl) (by
 rintro σ H Rq ⟨A, st, ds, rs, hd, q⟩
 obtain ⟨x, hx, h2⟩ := R.ok_of hd
 refine ⟨A, st, x, rs, hx, fun v H1 s1 r1 => ?_⟩
 cases x <;> first | (cases h2; done) | skip
 ·obtain ⟨_, h2⟩ := aJ h2
  cases h2
  exact .inr ⟨_, aR.mp r1, q _ H1 s1 aRc⟩
 ·cases h2
  obtain ⟨a, vs, e, h3, r3⟩ := aY r1
  exact .inl ⟨a, e, .inr ⟨⟨vs, pN (aX _ _) h3⟩, q _ H1 s1 (aRb h3 r3)⟩⟩
 ·cases h2
  obtain ⟨a, vs, e, h3, r3⟩ := bL.mp r1
  exact .inl ⟨a, e, .inl ⟨⟨vs, (aX _ _).seq h3⟩, q _ H1 s1 (aRa h3 r3)⟩⟩)
theorem tX {tg : Expr} {p : Pos} (hm : X.mg "range" = none) (ha : PE X a (tP X.K B f)) (hg : Gl X "range" := by rfl) (hs : starEach [a] X.env = [(false, eval a X.env)] := by rfl) : L2.PI X tg (.Call (.Name "range" p) [a] [] pos) (tIt X.K B (lD f)) := aEw (aH1 hg hm (cW ha fK hs) hs) (by
 rintro σ H Rq ⟨A, st, ds, rs, hd, q⟩
 obtain ⟨x, hx, h2⟩ := R.ok_of hd
 obtain ⟨j, rfl, h3⟩ := aBf h2
 obtain ⟨c, h4⟩ := aJ h3
 rw [jZ] at c
 cases h4
 exact ⟨A, st, _, rs, hx, fun v H1 s1 r1 => ⟨j, by rw [r1.int], by omega, by omega, q _ H1 s1 aKn⟩⟩)
theorem aUt {tg : Expr} {p : Pos} (hm : X.mg "range" = none) (ha : PE X a (tP X.K B f)) (hb : PE X b (tP X.K B g)) (hg : Gl X "range" := by rfl) (hs : starEach [a, b] X.env = [(false, eval a X.env), (false, eval b X.env)] := by rfl) (hs2 : starEach [b] X.env = [(false, eval b X.env)] := by rfl)
  (hs3 : starEach [a, b] X.env = (false, eval a X.env) :: starEach [b] X.env := by rfl) : L2.PI X tg (.Call (.Name "range" p) [a, b] [] pos) (tIt X.K B (aM9 f g)) := aEw (aH2 hg hm (cW ha (cW hb fK hs2) hs3) hs hs2) (by
 rintro σ H Rq ⟨A, st, ds, rs, hd, q⟩
 obtain ⟨x, hx, h2⟩ := R.ok_of hd
 obtain ⟨y, hy, h5⟩ := R.ok_of h2
 obtain ⟨i, rfl, h6⟩ := aBf h5
 obtain ⟨j, rfl, h3⟩ := aBf h6
 obtain ⟨c, h4⟩ := aJ h3
 rw [jZ] at c
 cases h4
 exact ⟨A, st, _, rs, hx, fun v H1 s1 r1 => ⟨A, st, _, rs.mono s1, hy, fun u H2 s2 r2 => ⟨i, j, by rw [r1.int, r2.int], ⟨by omega, by omega, by omega, by omega⟩, q _ H2 (s1.trans s2) aKn⟩⟩⟩)
end
theorem tY {K : PySem.W.Frag} {B : List Addr} {H : Hp} {N : List Str} {ds : List D} {vs : List V} (w : Own B H) (r : aW K (hide B H) ds vs) : RS K B [] H (ds.map (fun d => some (Sl.v d)) ++ List.replicate (N.length - ds.length) none) (L2.start N vs) := by
 have hl := r.length
 have nov : ∀ (i : Nat) (s : Sl), (ds.map (fun d => some (Sl.v d)) ++ List.replicate (N.length - ds.length) none)[i]? = some (some s) -> ∃ d, ds[i]? = some d /\ s = .v d := fun i s e => by
  by_cases hi : i < ds.length
  ·rw [List.getElem?_append_left (by simpa using hi), List.getElem?_map, List.getElem?_eq_getElem hi] at e
   simp at e
   exact ⟨ds[i], List.getElem?_eq_getElem hi, e.symm⟩
  ·rw [List.getElem?_append_right (by simpa using hi), List.getElem?_replicate] at e
   split at e <;> simp at e
 refine ⟨by unfold L2.start; simp [hl], by rw [List.nil_append]; exact w, fun a ha => absurd ha (by simp), fun i d e => ?_, fun i kk xs e => ?_⟩
 ·obtain ⟨d', e1, e2⟩ := nov i _ e
  cases e2
  obtain ⟨v, hv, rv⟩ := r.get e1
  refine ⟨v, ?_, by rw [List.nil_append]; exact rv⟩
  unfold L2.start
  have hi : i < vs.length := (List.getElem?_eq_some_iff.mp hv).1
  rw [List.getElem?_append_left (by simpa using hi), List.getElem?_map, hv]
  rfl
 ·obtain ⟨d', e1, e2⟩ := nov i _ e
  cases e2
theorem cO {np n : Nat} {bd : Bd} (ds : List D) (d : D) (h : eN np n bd ds = .ok d) : ds.length = np := (aJ h).1
end Pu
namespace Pu
open PySem PySem.Spec PyProof.Rows L2
structure DefOk (P : Program) (w : World) (K : PySem.W.Frag) (mg : Str -> Option Value) (base : Heap) (x : Str) (k np : Nat) (p : List D -> R D) : Prop where
 ex : ∃ (fa : Addr) (fd : FuncData) (ps : List Str), FnOk P w K mg base CX0 k fa fd ps (spI K np p) /\ mg x = some (.ref fa) /\ PySem.W.keepIn K (.ref fa) = true /\ Binds K fd ps []
 len : ∀ ds d, p ds = .ok d -> ds.length = np
theorem DefOk.of {P : Program} {w : World} {K : PySem.W.Frag} {mg : Str -> Option Value} {base : Heap} {x : Str} {k np : Nat} {p : List D -> R D} {fa : Addr} {fd : FuncData} {ps : List Str} (h : FnOk P w K mg base CX0 k fa fd ps (spI K np p)) (m : mg x = some (.ref fa))
  (kp : PySem.W.keepIn K (.ref fa) = true) (b : Binds K fd ps []) (l : ∀ ds d, p ds = .ok d -> ds.length = np) : DefOk P w K mg base x k np p := ⟨⟨fa, fd, ps, h, m, kp, b⟩, l⟩
section
variable {X : Cx} {B : List Addr} {a b e : Expr} {f g : Ex} {pos : Pos}
theorem bF {x : Str} {k j np : Nat} {p : List D -> R D} {es : List Expr} {r : Exs} {p0 : Pos} (h : DefOk X.prog X.w X.K X.mg X.base x k np p) (hr : Room j X.A) (hk : k <= j) (ha : PA X (e :: es) (tA X.K B r)) (hg : Gl X x := by rfl) (hdb : (x == ("__debug__" : Str)) = false := by decide)
  (he : starEach (e :: es) X.env = (false, eval e X.env) :: starEach es X.env := by rfl) (hpl : (backTo pos (starEach es X.env)).any (·.1) = false := by rfl) : PE X (.Call (.Name x p0) (e :: es) [] pos) (tI X.K B (bN p r)) := by
 obtain ⟨fa, fd, ps, F, m, kp, bd⟩ := h.ex
 exact aR7 F (hr.mono hk) m kp bd h.len ha hg hdb he hpl
theorem aRe {K : PySem.W.Frag} {H : Hp} {a : Addr} {ns : List Int} {p : List D -> R D} {E : XK} (hS : SqL K H a (ns.map V.int)) (h : p [.lst (ns.map D.int)] = .ok (.bl true)) : spI K 1 p [.ref a] H (fun v _ => v = .bl true) E := by
 refine ⟨[], [.lst (ns.map D.int)], .bl true, fun b hb => absurd hb (by simp), ?_, rfl, h, fun v H' _ r => bA.mp r⟩
 rw [lM]
 refine .cons (bL.mpr ⟨a, _, rfl, hS, ?_⟩) .nil
 clear hS h
 induction ns with
 | nil => exact .nil
 | cons n ns ih => exact .cons (aN.mpr rfl) ih
theorem gH {p0 : Pos} (hm : X.mg "len" = none) (ha : PE X a (tP X.K B f)) (hg : Gl X "len" := by rfl) (hs : starEach [a] X.env = (false, eval a X.env) :: starEach [] X.env := by rfl) : PE X (.Call (.Name "len" p0) [a] [] pos) (tI X.K B (e1 fJ f)) := by
 refine cH (mZ (aBa.or (aBb.or aHy)) hg hm PySem.boot_len (cW ha fK hs) (he := hs)) ?_
 rintro σ H Q ⟨A, st, d, rs, hd, q⟩
 obtain ⟨x, hx, h2⟩ := R.ok_of hd
 refine ⟨A, st, x, rs, hx, fun v H1 s1 r1 => ?_⟩
 cases x <;> first | (cases h2; done) | skip
 ·obtain ⟨c, h3⟩ := aJ h2
  cases h3
  exact .inr (.inl ⟨_, by rw [r1.str], by rw [str_len]; exact lim c, by rw [str_len]; exact q _ H1 s1 (aN.mpr rfl)⟩)
 ·cases h2
  obtain ⟨l, vs, e, h3, r3⟩ := r1.tup
  exact .inl ⟨l, vs, by rw [e], .inr h3, by rw [r3.length]; exact q _ H1 s1 (aN.mpr rfl)⟩
 ·cases h2
  obtain ⟨l, vs, e, h3, r3⟩ := r1.lst
  exact .inl ⟨l, vs, by rw [e], .inl h3, by rw [r3.length]; exact q _ H1 s1 (aN.mpr rfl)⟩
 ·rename_i t ks ds
  cases t <;> first | (cases h2; done) | skip
  cases h2
  obtain ⟨a, kvs, e, h3, h4⟩ := aN5 r1
  exact .inr (.inr ⟨a, kvs, by rw [e], h3, by rw [h4]; exact q _ H1 s1 (aN.mpr rfl)⟩)
theorem aF0 : PO X none (tO X.K B aA3) := aKg aM0 (by
 rintro σ H Q ⟨A, st, o, rs, ho, q⟩
 cases ho
 exact q H (aP.refl _))
theorem yK (h : PE X e (tP X.K B f)) : PO X (some e) (tO X.K B (qM f)) := aKg (aM1 h) (by
 rintro σ H Q ⟨A, st, o, rs, ho, q⟩
 obtain ⟨x, hx, h2⟩ := R.ok_of ho
 obtain ⟨i, rfl, h3⟩ := aBf h2
 cases h3
 exact ⟨A, st, _, rs, hx, fun v H1 s1 r1 => ⟨i, r1.int, q H1 s1⟩⟩)
theorem aDd {α : Type} (x : List α) : ∀ (k a : Nat), ((List.range k).map (a + ·)).filterMap (x[·]?) = (x.drop a).take k
 | 0, a => by simp
 | k + 1, a => by
  rw [List.range_succ_eq_map, List.map_cons, List.filterMap_cons, List.map_map]
  have e : ((fun b => a + b) ∘ Nat.succ) = fun b => (a + 1) + b := by funext b; simp only [Function.comp_apply]; omega
  rw [e]
  have ih := aDd x k (a + 1)
  rw [ih]
  by_cases h : a < x.length
  ·rw [Nat.add_zero, List.getElem?_eq_getElem h]
   simp only [List.drop_eq_getElem_cons h, List.take_succ_cons]
  ·rw [Nat.add_zero, List.getElem?_eq_none (by omega)]
   simp only [List.drop_eq_nil_of_le (by omega : x.length <= a), List.drop_eq_nil_of_le (by omega : x.length <= a + 1), List.take_nil]
theorem aGh (n d : Nat) (o : Option Int) : (match o with | none => (d : Int) | some i => if (1 : Int) > 0 then max 0 (min (if i < 0 then i + (n : Int) else i) (n : Int)) else max (-1) (min (if i < 0 then i + (n : Int) else i) ((n : Int) - 1))) = ((sIx n d o : Nat) : Int) := by
 cases o with
 | none => rfl
 | some i =>
  show (if (1 : Int) > 0 then _ else _) = (((if i < 0 then (i + (n : Int)).toNat else min i.toNat n) : Nat) : Int)
  rw [if_pos (by decide)]
  by_cases h : i < 0
  ·rw [if_pos h, if_pos h]; omega
  ·rw [if_neg h, if_neg h]; omega
theorem aKp (lo hi : Option Int) (n : Nat) : Builtin.Str.strSliceIndices lo hi 1 n = (List.range (sIx n n hi - sIx n 0 lo)).map (sIx n 0 lo + ·) := by
 unfold Builtin.Str.strSliceIndices
 simp only [show (1 : Int) > 0 by decide, if_true]
 have e1 := aGh n 0 lo
 have e2 := aGh n n hi
 simp only [show (1 : Int) > 0 by decide, if_true] at e1 e2
 rw [show ((0 : Nat) : Int) = 0 from rfl] at e1
 refine Eq.trans (congrArg (fun z => sliceRange z _ 1) (show _ = ((sIx n 0 lo : Nat) : Int) from e1)) (Eq.trans (congrArg (fun z => sliceRange _ z 1) (show _ = ((sIx n n hi : Nat) : Int) from e2)) ?_)
 unfold sliceRange
 simp only [show (1 : Int) > 0 by decide, if_true]
 have hc : (if ((sIx n 0 lo : Nat) : Int) < ((sIx n n hi : Nat) : Int) then (((sIx n n hi : Nat) : Int) - ((sIx n 0 lo : Nat) : Int) + 1 - 1) / 1 else 0).toNat = sIx n n hi - sIx n 0 lo := by
  by_cases h : ((sIx n 0 lo : Nat) : Int) < ((sIx n n hi : Nat) : Int)
  ·rw [if_pos h, Int.ediv_one]; omega
  ·rw [if_neg h]; omega
 rw [hc]
 refine List.map_congr_left fun k _ => ?_
 omega
theorem aN7 (n d : Nat) (hd : d <= n) (o : Option Int) : sIx n d o <= n := by
 cases o with
 | none => exact hd
 | some v =>
  show (if v < 0 then (v + (n : Int)).toNat else min v.toNat n) <= n
  by_cases hv : v < 0
  ·rw [if_pos hv]; omega
  ·rw [if_neg hv]; omega
theorem aHz (x : List Nat) (lo hi : Option Int) : Txt.slice ⟨x.toArray⟩ lo hi = ⟨(cut x lo hi).toArray⟩ := by
 unfold Txt.slice cut
 rw [str_len, aKp, List.length_map, List.length_range]
 have h1 := aN7 x.length x.length (Nat.le_refl _) hi
 by_cases h : sIx x.length x.length hi - sIx x.length 0 lo = x.length
 ·have e0 : sIx x.length 0 lo = 0 \/ x.length = 0 := by omega
  rw [if_pos (by simp [h]), h]
  rcases e0 with e0 | e0
  ·rw [e0, List.drop_zero, List.take_length]
  ·rw [List.length_eq_zero_iff.mp e0]; simp
 ·rw [if_neg (by simp [h])]
  have e : (fun (i : Nat) => (⟨x.toArray⟩ : Str).cps[i]?) = fun i => x[i]? := by funext i; simp
  rw [e, aDd]
def aXg : V -> Option Int -> Option Int -> Hp -> VK -> Prop := fun x lo hi H Q => ∃ z : List Nat, x = .str ⟨z.toArray⟩ /\ z.length <= sizeLine /\ Q (.str ⟨(cut z lo hi).toArray⟩) H
theorem aRf : SlR X aXg := by
 intro pins s σ H x v vl vu lo hi sl Q I rx hs pl pu h
 obtain ⟨z, rfl, hz, q⟩ := h
 obtain ⟨t, rfl⟩ := rx
 refine ⟨"str", _, PySem.F.slot_str_getitem.lookup, typeIs_str _ _ _, ?_⟩
 have hl : (Txt.slice ⟨z.toArray⟩ lo hi).length <= sizeLine := Nat.le_trans (Txt.slice_le _ _ _) (by rw [str_len]; exact hz)
 have fin : ∀ t' k, EP X pins σ Q (.str (Txt.slice ⟨z.toArray⟩ lo hi) t') { s with toks := k } := fun t' k => ⟨.str ⟨(cut z lo hi).toArray⟩, H, I.tok k, ⟨t', by rw [aHz]⟩, q⟩
 cases pl with
 | none =>
  cases pu with
  | none => exact wpAny_getItem_str_slice (l := none) (u := none) (st := none) hs rfl (post_val_or_str ⟨hl, fin⟩)
  | int j uj => exact wpAny_getItem_str_slice (l := none) (u := some (j, uj)) (st := none) hs rfl (post_val_or_str ⟨hl, fin⟩)
 | int i ui =>
  cases pu with
  | none => exact wpAny_getItem_str_slice (l := some (i, ui)) (u := none) (st := none) hs rfl (post_val_or_str ⟨hl, fin⟩)
  | int j uj => exact wpAny_getItem_str_slice (l := some (i, ui)) (u := some (j, uj)) (st := none) hs rfl (post_val_or_str ⟨hl, fin⟩)
theorem aDe {K : PySem.W.Frag} {H : Hp} {ds : List D} {vs : List V} (lo hi : Option Int) (r : aW K H ds vs) : aW K H (cut ds lo hi) (aHa vs lo hi) := by
 unfold cut aHa
 rw [r.length]
 exact (r.drop _).take _
theorem aRg {lo hi : Option Expr} {l u : ExO} {p2 : Pos} (ha : PE X a (tP X.K B f)) (hl : PO X lo (tO X.K B l)) (hu : PO X hi (tO X.K B u)) : PE X (.Subscript a (.Slice lo hi none p2) pos) (tI X.K B (eSl f l u)) := by
 refine cH (aCl (aFj.or aRf) ha hl hu) ?_
 rintro σ H Q ⟨A, st, d, rs, hd, q⟩
 obtain ⟨x, hx, h2⟩ := R.ok_of hd
 obtain ⟨l', hl', h3⟩ := R.ok_of h2
 obtain ⟨u', hu', h4⟩ := R.ok_of h3
 refine ⟨A, st, x, rs, hx, fun v H1 s1 r1 => ⟨A, st, l', rs.mono s1, hl', fun H2 s2 => ⟨A, st, u', rs.mono (s1.trans s2), hu', fun H3 s3 => ?_⟩⟩⟩
 have r3 := r1.mono (s2.trans s3)
 cases x <;> first | (cases h4; done) | skip
 ·obtain ⟨c, h5⟩ := aJ h4
  cases h5
  exact .inr ⟨_, r3.str, lim c, q _ H3 (s1.trans (s2.trans s3)) (aR.mpr rfl)⟩
 ·cases h4
  obtain ⟨p, vs, e, h6, r6⟩ := r3.lst
  refine .inl ⟨p, vs, e, h6, fun n hn => q _ _ (s1.trans (s2.trans (s3.trans (cI hn)))) ?_⟩
  exact gZ (rs.own.mono (s1.trans (s2.trans s3))) hn (aDe _ _ r6)
end
end Pu
namespace Pu
open PySem PySem.Spec PyProof.Rows L2
def clo (cells : List (Str × Addr)) : List (Str × NameKind) -> List (Str × Addr) -> List (Str × Addr)
 | [], acc => acc
 | (n, k) :: r, acc => if k == .free then clo cells r ((n, (cells.lookup n).getD 0) :: acc) else clo cells r acc
theorem rO {env : Env} : ∀ (names : List (Str × NameKind)) (acc : List (Str × Addr)), (∀ y ∈ names, y.2 = .free -> ∃ c, env.cells.lookup y.1 = some c) ->
  (forIn names acc fun x cs => if x.2 == .free then (do let c <- cellOf env x.1; pure (ForInStep.yield ((x.1, c) :: cs))) else pure (ForInStep.yield cs) : Sem (List (Str × Addr))) = pure (clo env.cells names acc)
 | [], acc, _ => by rw [List.forIn_nil]; rfl
 | (n, k) :: r, acc, h => by
  rw [List.forIn_cons]
  unfold clo
  by_cases hk : k = .free
  ·subst hk
   obtain ⟨c, e⟩ := h (n, .free) List.mem_cons_self rfl
   have e2 : cellOf env n = pure c := by unfold cellOf; rw [e]
   simp only [beq_self_eq_true, if_true, e2, e, Option.getD_some]
   show (forIn r ((n, c) :: acc) _ : Sem (List (Str × Addr))) = _
   exact rO r _ fun y hy => h y (List.mem_cons_of_mem _ hy)
  ·have hb : (k == NameKind.free) = false := by simpa using hk
   simp only [hb, Bool.false_eq_true, if_false]
   show (forIn r acc _ : Sem (List (Str × Addr))) = _
   exact rO r _ fun y hy => h y (List.mem_cons_of_mem _ hy)
theorem zL {scope : Scope} {env : Env} (h : ∀ y ∈ scope.names, y.2 = .free -> ∃ c, env.cells.lookup y.1 = some c) : closureFor scope env = pure (clo env.cells scope.names []) := by
 have q := rO (env := env) scope.names [] h
 unfold closureFor
 rw [<- q]
 simp only [pure_bind, bind_pure]
theorem aC4 {cells : List (Str × Addr)} : ∀ (names : List (Str × NameKind)) (acc : List (Str × Addr)) (x : Str) (c : Addr), (∀ y ∈ names, y.2 = .free -> ∃ c, cells.lookup y.1 = some c) -> (x, c) ∈ clo cells names acc -> ((x, NameKind.free) ∈ names /\ cells.lookup x = some c) \/ (x, c) ∈ acc
 | [], acc, x, c, _, h => .inr h
 | (n, k) :: r, acc, x, c, hn, h => by
  unfold clo at h
  have hr : ∀ y ∈ r, y.2 = .free -> ∃ c, cells.lookup y.1 = some c := fun y hy => hn y (List.mem_cons_of_mem _ hy)
  by_cases hk : k = .free
  ·subst hk
   rw [if_pos (by simp)] at h
   obtain ⟨c', e⟩ := hn (n, .free) List.mem_cons_self rfl
   rcases aC4 r _ x c hr h with ⟨h1, h2⟩ | h1
   ·exact .inl ⟨List.mem_cons_of_mem _ h1, h2⟩
   ·rcases List.mem_cons.mp h1 with h1 | h1
    ·cases h1
     refine .inl ⟨List.mem_cons_self, ?_⟩
     have e' : cells.lookup n = some c' := e
     rw [e']; rfl
    ·exact .inr h1
  ·rw [if_neg (by simpa using hk)] at h
   rcases aC4 r _ x c hr h with ⟨h1, h2⟩ | h1
   ·exact .inl ⟨List.mem_cons_of_mem _ h1, h2⟩
   ·exact .inr h1
theorem aC5 {cells : List (Str × Addr)} : ∀ (names : List (Str × NameKind)) (acc : List (Str × Addr)) (x : Str), ((x, NameKind.free) ∈ names \/ ∃ c, (x, c) ∈ acc) -> ∃ c, (x, c) ∈ clo cells names acc
 | [], acc, x, h => by
  rcases h with h | h
  ·cases h
  ·exact h
 | (n, k) :: r, acc, x, h => by
  unfold clo
  by_cases hk : k = .free
  ·subst hk
   rw [if_pos (by simp)]
   refine aC5 r _ x ?_
   rcases h with h | ⟨c, h⟩
   ·rcases List.mem_cons.mp h with h | h
    ·cases h; exact .inr ⟨_, List.mem_cons_self⟩
    ·exact .inl h
   ·exact .inr ⟨c, List.mem_cons_of_mem _ h⟩
  ·rw [if_neg (by simpa using hk)]
   refine aC5 r _ x ?_
   rcases h with h | h
   ·rcases List.mem_cons.mp h with h | h
    ·cases h; exact absurd rfl hk
    ·exact .inl h
   ·exact .inr h
theorem mU {α : Type} : ∀ {l : List (Str × α)} {x : Str} {c : α}, (x, c) ∈ l -> ∃ c', l.lookup x = some c'
 | (n, v) :: r, x, c, h => by
  rw [List.lookup_cons]
  cases hb : x == n with
  | true => exact ⟨v, rfl⟩
  | false =>
   rcases List.mem_cons.mp h with h | h
   ·cases h; simp at hb
   ·exact mU h
theorem iR {env : Env} : ∀ (names : List (Str × NameKind)) (x : Str), (names.map fun (n, k) => if (k == NameKind.free && env.scope.kind == .function && env.kindOf n == some .cell) then (n, NameKind.cell) else (n, k)).lookup x =
  (names.lookup x).map fun k => if (k == NameKind.free && env.scope.kind == .function && env.kindOf x == some .cell) then NameKind.cell else k
 | [], _ => rfl
 | (n, k) :: r, x => by
  have ih := @iR env r x
  rw [List.map_cons, List.lookup_cons]
  show List.lookup x ((if (k == NameKind.free && env.scope.kind == .function && env.kindOf n == some .cell) = true then (n, NameKind.cell) else (n, k)) :: _) = _
  cases hx : x == n with
  | true =>
   have e : x = n := beq_iff_eq.mp hx
   subst e
   by_cases hc : (k == NameKind.free && env.scope.kind == .function && env.kindOf x == some .cell) = true
   ·rw [if_pos hc, List.lookup_cons, List.lookup_cons, hx]; simp only [Option.map_some]; rw [if_pos hc]
   ·rw [if_neg hc, List.lookup_cons, List.lookup_cons, hx]; simp only [Option.map_some]; rw [if_neg hc]
  | false =>
   by_cases hc : (k == NameKind.free && env.scope.kind == .function && env.kindOf n == some .cell) = true
   ·rw [if_pos hc, List.lookup_cons, List.lookup_cons, hx]; exact ih
   ·rw [if_neg hc, List.lookup_cons, List.lookup_cons, hx]; exact ih
theorem jR : ∀ (names : List (Str × NameKind)) (n : Nat) (acc : List (Str × Addr)), cellsFrom n names acc = cellsFrom n names [] ++ acc
 | [], _, _ => rfl
 | (x, k) :: r, n, acc => by
  unfold cellsFrom
  split
  ·rw [jR r (n + 1) ((x, n) :: acc), jR r (n + 1) [(x, n)], List.append_assoc]; rfl
  ·exact jR r n acc
theorem nR : ∀ (names : List (Str × NameKind)) (n : Nat) (acc : List (Str × Addr)) (x : Str) (c : Addr), (x, c) ∈ cellsFrom n names acc -> (x, c) ∈ acc \/ (x, NameKind.cell) ∈ names
 | [], _, _, _, _, h => .inl h
 | (y, k) :: r, n, acc, x, c, h => by
  unfold cellsFrom at h
  split at h
  ·rename_i hk
   rcases nR r _ _ x c h with z | z
   ·rcases List.mem_cons.mp z with z | z
    ·cases z; exact .inr (by rw [show k = NameKind.cell from by simpa using hk]; exact List.mem_cons_self)
    ·exact .inl z
   ·exact .inr (List.mem_cons_of_mem _ z)
  ·rcases nR r _ _ x c h with z | z
   ·exact .inl z
   ·exact .inr (List.mem_cons_of_mem _ z)
theorem jT : ∀ (names : List (Str × NameKind)) (n : Nat) (acc : List (Str × Addr)) (x : Str), ((x, NameKind.cell) ∈ names \/ ∃ c, (x, c) ∈ acc) -> ∃ c, (x, c) ∈ cellsFrom n names acc
 | [], _, _, x, h => h.elim (fun z => nomatch z) id
 | (y, k) :: r, n, acc, x, h => by
  unfold cellsFrom
  split
  ·refine jT r _ _ x ?_
   rcases h with h | ⟨c, h⟩
   ·rcases List.mem_cons.mp h with h | h
    ·cases h; exact .inr ⟨n, List.mem_cons_self⟩
    ·exact .inl h
   ·exact .inr ⟨c, List.mem_cons_of_mem _ h⟩
  ·rename_i hk
   refine jT r _ _ x ?_
   rcases h with h | h
   ·rcases List.mem_cons.mp h with h | h
    ·cases h; exact absurd rfl hk
    ·exact .inl h
   ·exact .inr h
theorem yL {α : Type} (x : Str) : ∀ (l r : List (Str × α)), (l ++ r).lookup x = (l.lookup x).or (r.lookup x)
 | [], r => by simp
 | (y, v) :: l, r => by
  rw [List.cons_append, List.lookup_cons, List.lookup_cons]
  cases hb : x == y with
  | true => rfl
  | false => exact yL x l r
theorem jU {α : Type} : ∀ {l : List (Str × α)} {x : Str} {v : α}, (l.map (·.1)).Nodup -> (x, v) ∈ l -> l.lookup x = some v
 | (y, w) :: l, x, v, nd, h => by
  rw [List.map_cons, List.nodup_cons] at nd
  rw [List.lookup_cons]
  rcases List.mem_cons.mp h with h | h
  ·cases h; simp
  ·have hne : (x == y) = false := by
    rw [beq_eq_false_iff_ne]
    intro z
    exact nd.1 (List.mem_map.mpr ⟨(x, v), h, z⟩)
   rw [hne]
   exact jU nd.2 h
theorem aI0 {M : Model} {A : Around} {E : Value -> Shared -> Prop} {s : Shared} {scope : Scope} {gl : Addr} {cl : List (Str × Addr)} {qual : Str} {env : Env} {Q : Env -> Shared -> Prop}
  (hQ : ∀ h', h'.Ns s.heap.objs.size (fun _ => none) -> (∀ b o, s.heap.get? b = some o -> h'.get? b = some o) -> CellsOk h' (s.heap.objs.size + 1) (cellsFrom (s.heap.objs.size + 1) scope.names []) ->
   Q { scope := scope, locals := s.heap.objs.size, globals := gl, cells := cellsFrom (s.heap.objs.size + 1) scope.names cl, qual := qual, func := none, code := env.code, frame := env.frame, builtins := env.builtins } { s with heap := h' }) :
  wpAny M A (newFunctionEnv scope gl cl [] qual none .none (some env)) Q E s := by
 simp only [newFunctionEnv, Option.isSome_some, if_true]
 refine wpAny_bind (wpAny_alloc (wpAny_bind (wpAny_layCells _ (fun name kind cells => by cases hkc : kind == NameKind.cell <;> simp [hkc]) _ _ _ _ ?_)))
 rw [List.forIn_nil]
 refine wpAny_bind (wpAny_pure (wpAny_pure ?_))
 have ok := cellsFrom_ok scope.names (s.heap.push { cls := .type "dict", data := .dict #[] }) (s.heap.objs.size + 1) [] ⟨fun _ _ hm => (nomatch hm), List.Pairwise.nil⟩ (by rw [Heap.size_push]; exact Nat.le_refl _)
 rw [Heap.size_push] at ok
 have e : ({ s with heap := s.heap.push { cls := .type "dict", data := .dict #[] } } : Shared).heap.objs.size = s.heap.objs.size + 1 := Heap.size_push ..
 rw [e]
 exact hQ _ ((Heap.Ns.new s.heap (.type "dict")).keeps (pushCells_keeps _ _)) (fun b o q => pushCells_keeps _ _ b o (Heap.get?_push_of_some _ q)) ok
structure CScope (X : Cx) (scope : Scope) (is : List Nat) : Prop where
 kind : scope.kind = .function
 nd : (scope.names.map (·.1)).Nodup
 free : ∀ x ∈ scope.names, x.2 = .free -> X.env.kindOf x.1 = some .cell \/ X.env.kindOf x.1 = some .free
 own : ∀ (i : Nat) x, X.N[i]? = some x -> (scope.names.lookup x = some .local \/ scope.names.lookup x = some .cell) -> i ∈ is
section
variable {X : Cx} {scope : Scope} {is : List Nat}
theorem CScope.names (S : CScope X scope is) : ∀ x ∈ scope.names, x.2 = .local -> scope.names.lookup x.1 = some .local := fun x hx e => jU S.nd (by rw [<- e]; exact hx)
def cL (X : Cx) (scope : Scope) (C : Addr) (s₀ : Shared) (H₀ : Hp) (fp : List Addr) : Cx :=
 { X with s₀ := s₀, H₀ := H₀, env := compEnvC scope (cellsFrom (C + 1) scope.names (clo X.env.cells scope.names [])) C X.env, outer := X.stack, stack := X.stack, ex := fp, fn := fun x => scope.names.lookup x == some .cell, pn := [], xe := fun _ _ => False, calm := true }
theorem CScope.cells (S : CScope X scope is) (ok : X.Ok) : ∀ y ∈ scope.names, y.2 = .free -> ∃ c, X.env.cells.lookup y.1 = some c := fun y hy hf => ok.has y.1 (S.free y hy hf)
theorem CScope.lk (S : CScope X scope is) (ok : X.Ok) {n : Nat} {x : Str} {c : Addr} (h : (cellsFrom n scope.names (clo X.env.cells scope.names [])).lookup x = some c) :
  ((cellsFrom n scope.names []).lookup x = some c /\ scope.names.lookup x = some .cell) \/ (scope.names.lookup x = some .free /\ X.env.cells.lookup x = some c) := by
 rw [jR, yL] at h
 cases e : (cellsFrom n scope.names []).lookup x with
 | some c' =>
  rw [e] at h
  cases h
  rcases nR _ _ _ _ _ (PySem.mem_of_lookup e) with z | z
  ·cases z
  ·exact .inl ⟨rfl, jU S.nd z⟩
 | none =>
  rw [e] at h
  have h : (clo X.env.cells scope.names []).lookup x = some c := h
  rcases aC4 scope.names [] x c (S.cells ok) (PySem.mem_of_lookup h) with ⟨h1, h2⟩ | h2
  ·exact .inr ⟨jU S.nd h1, h2⟩
  ·cases h2
def aDf (is : List Nat) (σ : LSt) : LSt := is.foldl (fun τ i => τ.set i none) σ
theorem aDg (is : List Nat) : ∀ σ : LSt, (aDf is σ).length = σ.length := by
 induction is with
 | nil => exact fun _ => rfl
 | cons i is ih => intro σ; show (aDf is (σ.set i none)).length = _; rw [ih, List.length_set]
theorem aKq (is : List Nat) : ∀ (σ : LSt) (j : Nat) (v : V), (aDf is σ)[j]? = some (some v) -> σ[j]? = some (some v) /\ j ∉ is := by
 induction is with
 | nil => exact fun σ j v h => ⟨h, by simp⟩
 | cons i is ih =>
  intro σ j v h
  obtain ⟨h1, h2⟩ := ih (σ.set i none) j v h
  rw [List.getElem?_set] at h1
  by_cases e : i = j
  ·subst e
   rw [if_pos rfl] at h1
   split at h1 <;> cases h1
  ·rw [if_neg e] at h1
   exact ⟨h1, fun z => (List.mem_cons.mp z).elim (fun z => e z.symm) h2⟩
theorem aF1 {pins : List (Addr × Obj)} {σ : LSt} {H : Hp} {s : Shared} {fp : List Addr} {h' : Heap} {t' : Nat} (S : CScope X scope is) (hc : X.calm = true) (I : Inv X pins σ H s) (hf : ∀ b ∈ fp, rY X pins H b) (hlt : ∀ b ∈ fp, b < s.heap.objs.size)
  (hn : h'.Ns s.heap.objs.size fun _ => none) (hk : ∀ b o, s.heap.get? b = some o -> h'.get? b = some o) (hcl : CellsOk h' (s.heap.objs.size + 1) (cellsFrom (s.heap.objs.size + 1) scope.names [])) :
  Inv (cL X scope s.heap.objs.size s H fp) [] (aDf is σ) H { s with heap := h', toks := t' } := by
 have lk := @CScope.lk X scope is S I.ok (s.heap.objs.size + 1)
 have nf : ∀ b ∈ fp, b ≠ s.heap.objs.size := fun b hb => Nat.ne_of_lt (hlt b hb)
 have cellLt : ∀ x c, X.env.cells.lookup x = some c -> c < s.heap.objs.size := fun x c e => by
  obtain ⟨v, q⟩ := I.cell x c e
  exact q.lt
 have ownGe : ∀ x c, (cellsFrom (s.heap.objs.size + 1) scope.names []).lookup x = some c -> s.heap.objs.size + 1 <= c := fun x c e => (hcl.empty x c (PySem.mem_of_lookup e)).2
 have has : ∀ x k, (k = .cell \/ k = .free) -> scope.names.lookup x = some k -> ∃ c, (cellsFrom (s.heap.objs.size + 1) scope.names (clo X.env.cells scope.names [])).lookup x = some c := fun x k hk e => by
  have hm := PySem.mem_of_lookup e
  rcases hk with rfl | rfl
  ·obtain ⟨c, q⟩ := jT scope.names (s.heap.objs.size + 1) (clo X.env.cells scope.names []) x (.inl hm)
   exact mU q
  ·obtain ⟨c, q⟩ := jT scope.names (s.heap.objs.size + 1) (clo X.env.cells scope.names []) x (.inr (aC5 (cells := X.env.cells) scope.names [] x (.inl hm)))
   exact mU q
 have knd : ∀ x, (relabel scope X.env).names.lookup x = some .cell \/ (relabel scope X.env).names.lookup x = some .free -> scope.names.lookup x = some .cell \/ scope.names.lookup x = some .free := fun x hx => by
  unfold relabel at hx
  rw [iR] at hx
  cases e : scope.names.lookup x with
  | none => rw [e] at hx; rcases hx with hx | hx <;> cases hx
  | some k =>
   rw [e] at hx
   simp only [Option.map_some] at hx
   by_cases hc : (k == NameKind.free && X.env.scope.kind == .function && X.env.kindOf x == some .cell) = true
   ·simp only [Bool.and_eq_true, beq_iff_eq] at hc
    exact .inr (by rw [hc.1.1])
   ·rw [if_neg hc] at hx; exact hx
 refine ⟨⟨I.ok.mod, ?_, I.ok.glob, I.ok.blt, Nat.le_refl _, fun x y c h1 h2 => ?_, fun x hx => ?_, fun x c hfn e => ?_, fun _ => I.ok.hd hc, I.ok.frames, .inl rfl, fun b hb => ⟨nf b hb, fun x c e z => ?_⟩, I.bs, ?_, fun b o e hb => ?_, fun b hb z => ?_, I.stack, I.stkFree⟩,
  rfl, I.bare, Un.kept hk, ⟨_, hn, fun i x v e1 e2 e3 => ?_⟩, fun x c e => ?_, I.hok.fresh (Nat.le_refl _), fun x c e => ?_, (fun p hp => absurd (show p ∈ ([] : List (Addr × Obj)) from hp) (by simp)), I.hok.kept hk, by rw [aDg]; exact I.len⟩
 ·show (relabel scope X.env).kind = .function
  exact S.kind
 ·rcases lk h1 with ⟨a1, _⟩ | ⟨_, a1⟩ <;> rcases lk h2 with ⟨a2, _⟩ | ⟨_, a2⟩
  ·exact name_of_addr hcl.apart (PySem.mem_of_lookup a1) (PySem.mem_of_lookup a2)
  ·exact absurd (Nat.lt_of_lt_of_le (cellLt y c a2) (Nat.le_of_succ_le (ownGe x c a1))) (Nat.lt_irrefl _)
  ·exact absurd (Nat.lt_of_lt_of_le (cellLt x c a1) (Nat.le_of_succ_le (ownGe y c a2))) (Nat.lt_irrefl _)
  ·exact I.ok.inj x y c a1 a2
 ·rcases knd x hx with e | e
  ·exact has x _ (.inl rfl) e
  ·exact has x _ (.inr rfl) e
 ·have hfn : scope.names.lookup x = some .cell := beq_iff_eq.mp hfn
  rcases lk e with ⟨a1, _⟩ | ⟨a1, _⟩
  ·have := ownGe x c a1
   show s.heap.objs.size <= c
   omega
  ·rw [hfn] at a1; cases a1
 ·rcases lk e with ⟨a1, _⟩ | ⟨_, a1⟩
  ·have h2 := hlt b hb
   rw [<- z] at h2
   exact absurd (Nat.lt_of_lt_of_le h2 (Nat.le_of_succ_le (ownGe x c a1))) (Nat.lt_irrefl _)
  ·exact (hf b hb).2.2.2.2.1 x c a1 z
 ·exact Nat.le_trans I.ok.bsz I.sz
 ·rcases (hf b hb).2.2.2.1 with z | z
  ·exact I.ok.noex b o e z
  ·exact absurd (Nat.lt_of_lt_of_le (Heap.lt_size e) (Nat.le_trans I.ok.bsz z)) (Nat.lt_irrefl _)
 ·rcases List.mem_cons.mp (I.stkSub b z) with z | z
  ·exact (hf b hb).2.1 z
  ·exact (hf b hb).2.2.1 z
 ·obtain ⟨e2, hni⟩ := aKq is σ i v e2
  have e3 : (relabel scope X.env).names.lookup x = some .local \/ (relabel scope X.env).names.lookup x = some .cell \/ (relabel scope X.env).names.lookup x = some .free := e3
  have hfr : scope.names.lookup x = some .free := by
   have e4 := e3
   unfold relabel at e4
   rw [iR] at e4
   cases e : scope.names.lookup x with
   | none => rw [e] at e4; rcases e4 with e4 | e4 | e4 <;> cases e4
   | some k =>
    rw [e] at e4
    simp only [Option.map_some] at e4
    by_cases hc : (k == NameKind.free && X.env.scope.kind == .function && X.env.kindOf x == some .cell) = true
    ·simp only [Bool.and_eq_true, beq_iff_eq] at hc
     rw [hc.1.1]
    ·rw [if_neg hc] at e4
     rcases e4 with e4 | e4 | e4
     ·exact absurd (S.own i x e1 (.inl (by rw [e, e4]))) hni
     ·exact absurd (S.own i x e1 (.inr (by rw [e, e4]))) hni
     ·exact e4
  have hrel : (relabel scope X.env).names.lookup x = some .cell \/ (relabel scope X.env).names.lookup x = some .free := by
   rcases e3 with e3 | e3 | e3
   ·unfold relabel at e3
    rw [iR, hfr] at e3
    simp only [Option.map_some] at e3
    split at e3 <;> cases e3
   ·exact .inl e3
   ·exact .inr e3
  have hvis := S.free _ (PySem.mem_of_lookup hfr) rfl
  obtain ⟨m, hm, hl⟩ := I.loc
  obtain ⟨u, ru, lu⟩ := hl i x v e1 e2 (.inr hvis)
  refine ⟨u, ru, .inr ⟨hrel, ?_⟩⟩
  rcases lu with ⟨k1, _⟩ | ⟨_, c, ec, zc⟩
  ·have k1 : X.env.kindOf x = some .local := k1
   rcases hvis with q | q <;> rw [k1] at q <;> cases q
  ·obtain ⟨c2, e5⟩ := has x _ (.inr rfl) hfr
   rcases lk e5 with ⟨_, a1⟩ | ⟨_, a1⟩
   ·rw [hfr] at a1; cases a1
   ·rw [ec] at a1
    cases a1
    exact ⟨c, e5, zc.keeps hk⟩
 ·rcases lk e with ⟨a1, _⟩ | ⟨_, a1⟩
  ·exact ⟨_, (hcl.empty x c (PySem.mem_of_lookup a1)).1⟩
  ·obtain ⟨v, q⟩ := I.cell x c a1
   exact ⟨v, q.keeps hk⟩
 ·rcases lk e with ⟨a1, _⟩ | ⟨_, a1⟩
  ·exact I.hok.fresh (by have := ownGe x c a1; omega)
  ·exact I.freeC x c a1
end
end Pu
namespace Pu
open PySem PySem.Spec PyProof.Rows L2
theorem yM (elt target iter c : Expr) (scope : Scope) (pos : Pos) (it acc : Value) (env : Env) :
  compTurn (.ListComp elt [⟨target, iter, [c], 0⟩] scope pos) 0 it acc env = (standAt iter.pos >>= fun _ => pyNext it >>= fun r => match r with
   | none => pure (.done .next)
   | some v => letOwnedTupleGo target it v >>= fun _ => assign target env v >>= fun _ => isTrue c env (eval c env) >>= fun ok =>
    if ok = true then (eval elt env >>= fun x => call (.builtin "list.append") [acc, x] >>= fun _ => again (.compLoop (.ListComp elt [⟨target, iter, [c], 0⟩] scope pos) 0 it acc env))
    else again (.compLoop (.ListComp elt [⟨target, iter, [c], 0⟩] scope pos) 0 it acc env)) := by
 unfold compTurn
 simp [List.forIn_cons, List.forIn_nil]
 rfl
theorem wH (elt target iter : Expr) (scope : Scope) (pos : Pos) (it acc : Value) (env : Env) :
  compTurn (.ListComp elt [⟨target, iter, [], 0⟩] scope pos) 0 it acc env = (standAt iter.pos >>= fun _ => pyNext it >>= fun r => match r with
   | none => pure (.done .next)
   | some v => letOwnedTupleGo target it v >>= fun _ => assign target env v >>= fun _ =>
    (eval elt env >>= fun x => call (.builtin "list.append") [acc, x] >>= fun _ => again (.compLoop (.ListComp elt [⟨target, iter, [], 0⟩] scope pos) 0 it acc env))) := by
 unfold compTurn
 simp [List.forIn_nil]
 rfl
section
variable {X : Cx} {scope : Scope} {is : List Nat} {elt tg iter : Expr} {pos : Pos} {wi : TI} {g : TG} {te : TE} {tt : TT}
def tLC (is : List Nat) (wi : TI) (g : TG) (tt : TT) (te : TE) : TE := fun σ H Q => wi σ H fun J H1 => ∀ p, H1 p = none -> ∃ W : Nat -> Nat -> LSt -> List V -> Hp -> Prop, (∃ m, W 0 m (aDf is σ) [] (upd H1 p (.lst []))) /\
 ∀ i m τ vs H, W i m τ vs H -> H p = some (.lst vs) /\ ((J.stop i H /\ Q (.ref p) H) \/ (J.go i H /\ ∀ x H', J.yld i H x H' -> g x τ H' fun τ2 H2 => tt τ2 H2 fun k H3 =>
  if k = true then te τ2 H3 fun y H4 => H4 p = some (.lst vs) /\ vs.length < sizeLine /\ ∃ m', m' < m /\ W (i + 1) m' τ2 (vs ++ [y]) (upd H4 p (.lst (vs ++ [y]))) else ∃ m', m' < m /\ W (i + 1) m' τ2 vs H3))
theorem wV {pins : List (Addr × Obj)} {σ σ5 : LSt} {H H5 : Hp} {s s5 : Shared} {fp : List Addr} {C : Addr} {h' : Heap} (I : Inv X pins σ H s) (hf : ∀ b ∈ fp, rY X pins H b) (hC : s.heap.objs.size <= C) (J : Inv (cL X scope C s H fp) [] σ5 H5 s5)
  (hs : Heap.SameBut C s5.heap h') : Inv X pins σ H5 { s5 with heap := h' } := by
 have hfree : H5 C = none := J.free
 have ne : ∀ b o, s.heap.get? b = some o -> b ≠ C := fun b o e z => by
  have := Heap.lt_size e
  subst z
  exact absurd (Nat.lt_of_lt_of_le this hC) (Nat.lt_irrefl _)
 have u : Un (frs X.stack) fp H H5 s.heap h' := ⟨fun b o e n hb hx => hs.extBut b o (ne b o e) (J.base.keep b o e n hb hx), fun b o e n hb hx => by
   obtain ⟨sl, q⟩ := J.base.slot b o e n hb hx
   exact ⟨sl, hs.extBut b _ (ne b o e) q⟩, J.base.free, fun b o e hx => by
   obtain ⟨o', q⟩ := J.base.there b o e hx
   exact ⟨o', hs.extBut b _ (ne b o e) q⟩, J.base.tups, J.base.frzs, J.base.tbls⟩
 have hok : HOk X.prog X.w H5 h' := fun b o e => by
  refine (J.hok b o e).stay (fun c v hc q => hs.extBut c v ?_ q) (fun _ q => q) fun _ _ q => q
  rintro rfl
  rcases hc with z | z
  ·subst z; rw [hfree] at e; cases e
  ·rw [hfree] at z; cases z
 obtain ⟨hh, gg, dd, tt, os⟩ := s5
 have hos : os = s.os := J.os
 subst hos
 have fin := I.call (h' := h') (g' := gg) (d' := dd) (t' := tt) (ch := fp) u hok J.bare fun b hb => ⟨(hf b hb).2.2.2.1, (hf b hb).2.1, (hf b hb).2.2.2.2.1, (hf b hb).2.2.2.2.2⟩
 exact fin
theorem aAu {Y : Cx} {pins : List (Addr × Obj)} {τ : LSt} {H : Hp} {s : Shared} {p : Addr} {vs : List V} {α : Type} {k : Sem α} {Q : α -> Shared -> Prop} {E : Value -> Shared -> Prop} (he : PE Y elt te) (hx : ∀ e s', Y.xe e s' -> E e s') (I : Inv Y pins τ H s) (hw : te τ H fun y H4 => H4 p = some (.lst vs) /\ vs.length < sizeLine /\ ∀ s', Inv Y pins τ (upd H4 p (.lst (vs ++ [y]))) s' -> wpAny (model Y.prog Y.w) Y.A k Q E s') :
  wpAny (model Y.prog Y.w) Y.A (eval elt Y.env >>= fun x => call (.builtin "list.append") [.ref p, x] >>= fun _ => k) Q E s := by
 refine wpAny_bind (wpAny_mono (he pins s τ H _ I hw) (fun u s1 ⟨y, H4, I4, r4, hp, hz, q⟩ => ?_) hx)
 obtain ⟨z, its, n, r, hl, e⟩ := I4.lstM hp
 refine wpAny_bind (call_meets PySem.F.slot_list_append ⟨_, e, rfl⟩ PySem.F.entry_list_append (PySem.F.args_list_append_2 _ _) (PySem.list_append p its.toArray n u (by rw [List.size_toArray]; omega)) ⟨e, ?_⟩)
 refine q _ (I4.lset (its' := its ++ [u]) (t' := s1.toks) hp e (by simp) (r.append (.cons r4 .nil)) ?_)
 rw [List.length_append, List.length_singleton]
 omega
end
theorem aI1 {Y : Cx} {e tg : Expr} {env : Env} {g : TG} {te : TE} {tt : TT} {it p : Addr} {fp : List Addr} {tn : Nat -> Heap -> Prop} {J : It} {R : Result -> Shared -> Prop} {iterPos : Pos} {rest : Sem Fin}
  (T : Turn Y.prog Y.w Y.K tg J fp it tn) (hc : Y.calm = true) (hE : Y.xe = fun _ _ => False) (hg : PG Y tg g) (hq : (Code.compLoop e 0 (.ref it) (.ref p) Y.env).quiet = true)
  (hden : ∀ (s : Shared) (Q : Fin -> Shared -> Prop), wpAny (model Y.prog Y.w) Y.A (pyNext (.ref it) >>= fun r => match r with
    | none => pure (.done .next)
    | some v => letOwnedTupleGo tg (.ref it) v >>= fun _ => assign tg Y.env v >>= fun _ => rest) Q (fun _ _ => False) s ->
   wpAny (model Y.prog Y.w) (Y.A.under (.compLoop e 0 (.ref it) (.ref p) Y.env)) ((model Y.prog Y.w).den (.compLoop e 0 (.ref it) (.ref p) Y.env)) Q (fun _ _ => False) s)
  (hrest : ∀ (τ : LSt) (H : Hp) (s : Shared) (pins : List (Addr × Obj)) (vs : List V) (N : Hp -> List V -> Prop) (Q : Fin -> Shared -> Prop), Inv Y pins τ H s ->
   (tt τ H fun k H3 => if k = true then te τ H3 fun y H4 => H4 p = some (.lst vs) /\ vs.length < sizeLine /\ N (upd H4 p (.lst (vs ++ [y]))) (vs ++ [y]) else N H3 vs) ->
   (∀ s' H' ws, Inv Y pins τ H' s' -> N H' ws -> Q (.again (.compLoop e 0 (.ref it) (.ref p) Y.env)) s') -> wpAny (model Y.prog Y.w) Y.A rest Q (fun _ _ => False) s)
  (W : Nat -> Nat -> LSt -> List V -> Hp -> Prop) {Qe : Hp -> Prop}
  (step : ∀ i m τ vs H, W i m τ vs H -> H p = some (.lst vs) /\ ((J.stop i H /\ Qe H) \/ (J.go i H /\ ∀ x H', J.yld i H x H' -> g x τ H' fun τ2 H2 => tt τ2 H2 fun k H3 =>
   if k = true then te τ2 H3 fun y H4 => H4 p = some (.lst vs) /\ vs.length < sizeLine /\ ∃ m', m' < m /\ W (i + 1) m' τ2 (vs ++ [y]) (upd H4 p (.lst (vs ++ [y]))) else ∃ m', m' < m /\ W (i + 1) m' τ2 vs H3)))
  (hR : ∀ τ H s, Inv Y [] τ H s -> Qe H -> R (.ok .next) s) {s : Shared} {τ : LSt} {H : Hp} {vs : List V} {i m : Nat} (I : Inv Y [] τ H s) (st : tn i s.heap) (fr : ∀ b ∈ fp, rY Y [] H b) (w : W i m τ vs H) :
  codeAny (model Y.prog Y.w) Y.A (.compLoop e 0 (.ref it) (.ref p) Y.env) R s := by
 have stat : ∀ {H' : Hp}, (∀ b ∈ fp, H' b = none) -> ∀ b ∈ fp, rY Y [] H' b := fun hn b hb => ⟨hn b hb, (fr b hb).2⟩
 refine codeAny_loop hq (fun n s' => ∃ i τ' vs' H', Inv Y [] τ' H' s' /\ tn i s'.heap /\ (∀ b ∈ fp, H' b = none) /\ W i n τ' vs' H') (fun n s3 hI => ?_) m ⟨i, τ, vs, H, I, st, fun b hb => (fr b hb).1, w⟩
 obtain ⟨i, τ3, vs3, H3, I3, st3, fr3, w3⟩ := hI
 refine wpAny_mono (hden s3 _ ?_) (fun _ _ q => q) (fun _ _ q => q.elim)
 obtain ⟨hp, hs⟩ := step i n τ3 vs3 H3 w3
 rcases hs with ⟨stop, qe⟩ | ⟨go, hs⟩
 ·refine wpAny_bind (thn (T.done Y rfl rfl rfl hc i [] s3 τ3 H3 (fun _ _ => False) I3 (stat fr3) st3 stop) fun r s4 ⟨hr, I4⟩ => ?_)
  subst hr
  exact wpAny_pure (hR τ3 H3 s4 I4 qe)
 ·refine wpAny_bind (thn (T.item Y rfl rfl rfl hc i [] s3 τ3 H3 (fun _ _ => False) I3 (stat fr3) st3 go) fun r s4 ⟨u, hr, h4⟩ => ?_)
  subst hr
  refine wpAny_bind (thn h4 fun _ s5 ⟨x, H5, I5, r5, y5, st5, fr5⟩ => ?_)
  have I5' := I5.pinned (stat fr5) (T.obj _ _ st5)
  have hg' := hg _ s5 τ3 H5 x u _ I5' r5 (hs x H5 y5)
  rw [hE] at hg'
  refine wpAny_bind (thn hg' fun _ s6 ⟨τ6, H6, I6, q6⟩ => ?_)
  refine hrest τ6 H6 s6 _ vs3 (fun H' ws => ∃ m', m' < n /\ W (i + 1) m' τ6 ws H') _ I6 q6 fun s7 H7 ws I7 ⟨m', hm, w7⟩ => ?_
  refine ⟨rfl, m', hm, i + 1, τ6, ws, H7, I7.unpinned, T.keep _ _ _ st5 fun b hb o e => (I7.pin (b, o) (List.mem_append_right _ (List.mem_append_right _ (nO hb e)))).1, fun b hb => ?_, w7⟩
  obtain ⟨o, e, d⟩ := T.obj _ _ st5 b hb
  exact (I7.pin (b, o) (List.mem_append_right _ (List.mem_append_right _ (nO hb e)))).2.1
end Pu
namespace Pu
open PySem PySem.Spec PyProof.Rows L2
section
variable {X : Cx} {scope : Scope} {is : List Nat} {elt tg iter c : Expr} {pos : Pos} {wi : TI} {g : TG} {te : TE} {tt : TT}
theorem pZ {use : Option (Value -> Sem Unit)} {Qf : Value -> Shared -> Prop} {ppos : Pos} {pins : List (Addr × Obj)} {s : Shared} {σ : LSt} {H : Hp} {Q : VK} {ifs : List Expr} {rest : Env -> Value -> Value -> Sem Fin} (S : CScope X scope is) (hc : X.calm = true) (hi : L2.PI X tg iter wi) (hg : ∀ C s₀ H₀ fp, PG (cL X scope C s₀ H₀ fp) tg g)
  (hquiet : ∀ it acc env, (Code.compLoop (.ListComp elt [⟨tg, iter, ifs, 0⟩] scope pos) 0 it acc env).quiet = true)
  (hden : ∀ C s₀ H₀ fp it p (s : Shared) (Q : Fin -> Shared -> Prop), wpAny (model X.prog X.w) X.A (pyNext (.ref it) >>= fun r => match r with
    | none => pure (.done .next)
    | some v => letOwnedTupleGo tg (.ref it) v >>= fun _ => assign tg (cL X scope C s₀ H₀ fp).env v >>= fun _ => rest (cL X scope C s₀ H₀ fp).env (.ref it) (.ref p)) Q (fun _ _ => False) s ->
   wpAny (model X.prog X.w) (X.A.under (.compLoop (.ListComp elt [⟨tg, iter, ifs, 0⟩] scope pos) 0 (.ref it) (.ref p) (cL X scope C s₀ H₀ fp).env)) ((model X.prog X.w).den (.compLoop (.ListComp elt [⟨tg, iter, ifs, 0⟩] scope pos) 0 (.ref it) (.ref p) (cL X scope C s₀ H₀ fp).env)) Q (fun _ _ => False) s)
  (hrest : ∀ C s₀ H₀ fp it p (τ : LSt) (H : Hp) (s : Shared) (pins : List (Addr × Obj)) (vs : List V) (N : Hp -> List V -> Prop) (Q : Fin -> Shared -> Prop), Inv (cL X scope C s₀ H₀ fp) pins τ H s ->
   (tt τ H fun k H3 => if k = true then te τ H3 fun y H4 => H4 p = some (.lst vs) /\ vs.length < sizeLine /\ N (upd H4 p (.lst (vs ++ [y]))) (vs ++ [y]) else N H3 vs) ->
   (∀ s' H' ws, Inv (cL X scope C s₀ H₀ fp) pins τ H' s' -> N H' ws -> Q (.again (.compLoop (.ListComp elt [⟨tg, iter, ifs, 0⟩] scope pos) 0 (.ref it) (.ref p) (cL X scope C s₀ H₀ fp).env)) s') ->
   wpAny (model X.prog X.w) X.A (rest (cL X scope C s₀ H₀ fp).env (.ref it) (.ref p)) Q (fun _ _ => False) s)
  (hs : ∀ x, foldedSetIterable iter X.env x = pure x) (I : Inv X pins σ H s) (h : tLC is wi g tt te σ H Q)
  (hfin : ∀ C p H5 s5 m5 s3 H3 fp τ, s3.heap.objs.size <= C -> Inv X pins σ H3 s3 -> (∀ b ∈ fp, rY X pins H3 b) -> Inv (cL X scope C s3 H3 fp) [] τ H5 s5 -> s5.heap.Ns C m5 -> Q (.ref p) H5 -> compPost (model X.prog X.w) X.A X.xe use Qf (.ref p) C (.ok .next) s5) :
  wpAny (model X.prog X.w) X.A (comprehension (.ListComp elt [⟨tg, iter, ifs, 0⟩] scope pos) scope X.env ppos (newList []) false (eval iter X.env) use) Qf X.xe s := by
 refine wpAny_comprehension_free (use := use) rfl hs (zL (S.cells I.ok)) S.kind S.names ?_
 refine thn (hi pins s σ H _ I h) fun v s1 h1 => thn h1 fun itv s2 h2 => ?_
 obtain ⟨it, fp, tn, J, H2, e, I2, T, st2, f2, hW⟩ := h2
 subst e
 refine wpAny_newObj_type (aI0 fun h₁ hns₁ hkp hcl₁ => ?_)
 have I3 : Inv X pins σ (upd H2 s2.heap.objs.size (.lst [])) { s2 with heap := s2.heap.push { cls := .type "list", data := .seq ([] : List Value).toArray } } := I2.lnew (t' := s2.toks) .nil (Nat.zero_le _)
 obtain ⟨W, ⟨m, w0⟩, step⟩ := hW s2.heap.objs.size I2.fresh
 have hob : ∀ b ∈ fp, b < s2.heap.objs.size := fun b hb => let ⟨o, e, _⟩ := T.obj 0 _ st2 b hb; Heap.lt_size e
 have hfp : ∀ b ∈ fp, rY X pins (upd H2 s2.heap.objs.size (.lst [])) b := fun b hb => ⟨by rw [bG (Nat.ne_of_lt (hob b hb))]; exact (f2 b hb).1, (f2 b hb).2⟩
 have hk : ∀ b o, (s2.heap.push { cls := .type "list", data := .seq ([] : List Value).toArray }).get? b = some o -> h₁.get? b = some o := hkp
 have Ic := aF1 (t' := s2.toks) S hc I3 hfp (fun b hb => Nat.lt_of_lt_of_le (hob b hb) (by rw [Heap.size_push]; exact Nat.le_succ _)) hns₁ hk hcl₁
 have st4 : tn 0 h₁ := T.keep 0 _ _ st2 fun b _ o e => hk b o (Heap.get?_push_of_some _ e)
 have fr4 : ∀ b ∈ fp, rY (cL X scope _ _ _ fp) [] (upd H2 s2.heap.objs.size (.lst [])) b := fun b hb => ⟨(hfp b hb).1, (Ic.ok.exf b hb).1, Ic.ok.exfs b hb, .inl hb, fun x c e => (Ic.ok.exf b hb).2 x c e, fun p hp => absurd (show p ∈ ([] : List (Addr × Obj)) from hp) (by simp)⟩
 have loop := aI1 (Y := cL X scope _ _ _ fp) (e := .ListComp elt [⟨tg, iter, ifs, 0⟩] scope pos) (env := X.env) (iterPos := pos) T rfl rfl (hg _ _ _ fp) (hquiet _ _ _) (hden _ _ _ fp it s2.heap.objs.size) (hrest _ _ _ fp it s2.heap.objs.size) W step
  (R := compPost (model X.prog X.w) X.A X.xe use Qf (.ref s2.heap.objs.size) (s2.heap.push { cls := .type "list", data := .seq ([] : List Value).toArray }).objs.size) (fun τ H5 s5 I5 q5 => by
   obtain ⟨m5, hn5, _⟩ := I5.loc
   exact hfin _ _ H5 s5 m5 _ _ fp τ (Nat.le_refl _) I3 hfp I5 hn5 q5) Ic st4 fr4 w0
 exact codeAny_compStart_list loop (T.self _ 0 _ _ _ st4 loop)
theorem nU {e : Expr} {it acc : Value} {env : Env} : (Code.compLoop e 0 it acc env).quiet = true := rfl
theorem aRh {Y : Cx} {it p : Addr} {s : Shared} {Q : Fin -> Shared -> Prop} (h : wpAny (model X.prog X.w) X.A (pyNext (.ref it) >>= fun r => match r with
        | none => pure (.done .next)
        | some v => letOwnedTupleGo tg (.ref it) v >>= fun _ => assign tg Y.env v >>= fun _ => (eval elt Y.env >>= fun x => call (.builtin "list.append") [.ref p, x] >>= fun _ => again (.compLoop (.ListComp elt [⟨tg, iter, [], 0⟩] scope pos) 0 (.ref it) (.ref p) Y.env))) Q (fun _ _ => False) s) :
      wpAny (model X.prog X.w) (X.A.under (.compLoop (.ListComp elt [⟨tg, iter, [], 0⟩] scope pos) 0 (.ref it) (.ref p) Y.env)) ((model X.prog X.w).den (.compLoop (.ListComp elt [⟨tg, iter, [], 0⟩] scope pos) 0 (.ref it) (.ref p) Y.env)) Q (fun _ _ => False) s := by
 show wpAny _ _ ((compTurn (.ListComp elt [⟨tg, iter, [], 0⟩] scope pos) 0 (.ref it) (.ref p) Y.env).onRaise (fun x => do noteFrame x Y.env; theTreesLotGoes x)) _ _ s
 refine wpAny_noted ?_
 rw [wH]
 exact wpAny_bind (wpAny_standAt (wpAny_mono h (fun _ _ q => q) fun _ _ q => q.elim))
theorem aXh {Y : Cx} {it p : Addr} {s : Shared} {Q : Fin -> Shared -> Prop} (h : wpAny (model X.prog X.w) X.A (pyNext (.ref it) >>= fun r => match r with
        | none => pure (.done .next)
        | some v => letOwnedTupleGo tg (.ref it) v >>= fun _ => assign tg Y.env v >>= fun _ => (isTrue c Y.env (eval c Y.env) >>= fun ok => if ok = true then (eval elt Y.env >>= fun x => call (.builtin "list.append") [.ref p, x] >>= fun _ => again (.compLoop (.ListComp elt [⟨tg, iter, [c], 0⟩] scope pos) 0 (.ref it) (.ref p) Y.env))
          else again (.compLoop (.ListComp elt [⟨tg, iter, [c], 0⟩] scope pos) 0 (.ref it) (.ref p) Y.env))) Q (fun _ _ => False) s) :
      wpAny (model X.prog X.w) (X.A.under (.compLoop (.ListComp elt [⟨tg, iter, [c], 0⟩] scope pos) 0 (.ref it) (.ref p) Y.env)) ((model X.prog X.w).den (.compLoop (.ListComp elt [⟨tg, iter, [c], 0⟩] scope pos) 0 (.ref it) (.ref p) Y.env)) Q (fun _ _ => False) s := by
 show wpAny _ _ ((compTurn (.ListComp elt [⟨tg, iter, [c], 0⟩] scope pos) 0 (.ref it) (.ref p) Y.env).onRaise (fun x => do noteFrame x Y.env; theTreesLotGoes x)) _ _ s
 refine wpAny_noted ?_
 rw [yM]
 exact wpAny_bind (wpAny_standAt (wpAny_mono h (fun _ _ q => q) fun _ _ q => q.elim))
def wW : TT := fun _ H Q => Q true H
theorem aKr {Y : Cx} (hY : Y.xe = fun _ _ => False) (he : PE Y elt te) {it p : Addr} (τ : LSt) (H : Hp) (s : Shared) (pins : List (Addr × Obj)) (vs : List V) (N : Hp -> List V -> Prop) (Q : Fin -> Shared -> Prop) (I : Inv Y pins τ H s)
  (h : wW τ H fun k H3 => if k = true then te τ H3 fun y H4 => H4 p = some (.lst vs) /\ vs.length < sizeLine /\ N (upd H4 p (.lst (vs ++ [y]))) (vs ++ [y]) else N H3 vs)
  (mono : ∀ (Q Q' : VK), (∀ v H', Q v H' -> Q' v H') -> te τ H Q -> te τ H Q')
  (q : ∀ s' H' ws, Inv Y pins τ H' s' -> N H' ws -> Q (.again (.compLoop (.ListComp elt [⟨tg, iter, [], 0⟩] scope pos) 0 (.ref it) (.ref p) Y.env)) s') :
  wpAny (model Y.prog Y.w) Y.A (eval elt Y.env >>= fun x => call (.builtin "list.append") [.ref p, x] >>= fun _ => again (.compLoop (.ListComp elt [⟨tg, iter, [], 0⟩] scope pos) 0 (.ref it) (.ref p) Y.env)) Q (fun _ _ => False) s := by
 have h' : te τ H fun y H4 => H4 p = some (.lst vs) /\ vs.length < sizeLine /\ N (upd H4 p (.lst (vs ++ [y]))) (vs ++ [y]) := h
 exact aAu he (by rw [hY]; exact fun _ _ z => z) I (mono _ _ (fun y H4 ⟨a, b, n⟩ => ⟨a, b, fun s' I' => wpAny_pure (q s' _ _ I' n)⟩) h')
end
end Pu
namespace Pu
open PySem PySem.Spec PyProof.Rows L2
section
variable {K : PySem.W.Frag} {B A : List Addr} {H : Hp} {st st' : PSt} {σ : LSt}
theorem aN8 (is : List Nat) : ∀ st : PSt, (clr is st).length = st.length := by
 induction is with
 | nil => exact fun _ => rfl
 | cons i is ih => intro st; show (clr is (st.set i none)).length = _; rw [ih, List.length_set]
theorem wX (is : List Nat) : ∀ (st : PSt) (j : Nat) (x : Sl), (clr is st)[j]? = some (some x) -> st[j]? = some (some x) /\ j ∉ is := by
 induction is with
 | nil => exact fun σ j v h => ⟨h, by simp⟩
 | cons i is ih =>
  intro σ j v h
  obtain ⟨h1, h2⟩ := ih (σ.set i none) j v h
  rw [List.getElem?_set] at h1
  by_cases e : i = j
  ·subst e
   rw [if_pos rfl] at h1
   split at h1 <;> cases h1
  ·rw [if_neg e] at h1
   exact ⟨h1, fun z => (List.mem_cons.mp z).elim (fun z => e z.symm) h2⟩
theorem yN (is : List Nat) : ∀ (σ : LSt) (j : Nat), j ∉ is -> (aDf is σ)[j]? = σ[j]? := by
 induction is with
 | nil => exact fun σ j _ => rfl
 | cons i is ih =>
  intro σ j h
  show (aDf is (σ.set i none))[j]? = _
  rw [ih _ j fun z => h (List.mem_cons_of_mem _ z), List.getElem?_set, if_neg (show ¬ i = j from fun z => h (z ▸ List.mem_cons_self))]
theorem RS.clr (is : List Nat) (r : RS K B A H st σ) : RS K B A H (Pu.clr is st) (aDf is σ) where
 len := by rw [aN8, aDg, r.len]
 own := r.own
 dis := r.dis
 val := fun i d e => by
  obtain ⟨e1, h⟩ := wX is st i _ e
  rw [yN is σ i h]
  exact r.val i d e1
 lst := fun i kk xs e => by
  obtain ⟨e1, h⟩ := wX is st i _ e
  obtain ⟨a, o, vs, e2, m, h1, ko, q, u⟩ := r.lst i kk xs e1
  refine ⟨a, o, vs, by rw [yN is σ i h]; exact e2, m, h1, ko, q, fun j k' ys ej ej2 => ?_⟩
  obtain ⟨e3, h3⟩ := wX is st j _ ej
  rw [yN is σ j h3] at ej2
  exact u j k' ys e3 ej2
theorem RS.weaken (r : RS K B A H st σ) (hl : st'.length = st.length) (h : ∀ (j : Nat) (x : Sl), st'[j]? = some (some x) -> st[j]? = some (some x)) : RS K B A H st' σ where
 len := hl.trans r.len
 own := r.own
 dis := r.dis
 val := fun i d e => r.val i d (h i _ e)
 lst := fun i kk xs e => by
  obtain ⟨a, o, vs, e2, m, h1, ko, q, u⟩ := r.lst i kk xs (h i _ e)
  exact ⟨a, o, vs, e2, m, h1, ko, q, fun j k' ys ej ej2 => u j k' ys (h j _ ej) ej2⟩
theorem mem_mid {A B : List Addr} {p b : Addr} : b ∈ A ++ p :: B ↔ b = p \/ b ∈ A ++ B := by
 simp only [List.mem_append, List.mem_cons]
 constructor
 ·rintro (h | h | h)
  ·exact .inr (.inl h)
  ·exact .inl h
  ·exact .inr (.inr h)
 ·rintro (h | h | h)
  ·exact .inr (.inl h)
  ·exact .inl h
  ·exact .inr (.inr h)
theorem aDh {p : Addr} {o : HO} (hp : H p = none) : aP (hide (A ++ B) H) (hide (A ++ p :: B) (upd H p o)) := fun b u q => by
 have q1 := aX _ _ _ _ q
 have hb : b ∉ A ++ B := fun z => by rw [dY z] at q; cases q
 have ne : b ≠ p := aU q1 hp
 rw [bO (show b ∉ A ++ p :: B from fun z => (mem_mid.mp z).elim ne hb), bG ne]
 exact q1
theorem RS.grow (r : RS K B A H st σ) {p : Addr} {vs : List V} (hp : H p = none) : RS K (p :: B) A (upd H p (.lst vs)) st σ where
 len := r.len
 own := fun a ha => by
  by_cases e : a = p
  ·subst e; rw [bV]; rfl
  ·rw [bG e]; exact r.own a ((mem_mid.mp ha).resolve_left e)
 dis := fun a ha hb => by
  rcases List.mem_cons.mp hb with rfl | hb
  ·exact r.own.free hp (List.mem_append_left _ ha)
  ·exact r.dis a ha hb
 val := fun j d' e => let ⟨u, e1, q⟩ := r.val j d' e; ⟨u, e1, q.mono (aDh hp)⟩
 lst := fun j kk xs e => by
  obtain ⟨a, o, vs', e1, m, h1, ko, q, u⟩ := r.lst j kk xs e
  exact ⟨a, o, vs', e1, m, by rw [bG (aU h1 hp)]; exact h1, ko, q.mono (aDh hp), u⟩
theorem RS.put {p : Addr} (r : RS K (p :: B) A H st σ) {vs : List V} : RS K (p :: B) A (upd H p (.lst vs)) st σ := by
 have hh : hide (A ++ p :: B) (upd H p (.lst vs)) = hide (A ++ p :: B) H := tM (mem_mid.mpr (.inl rfl))
 refine ⟨r.len, fun b hb => ?_, r.dis, fun j d e => by rw [hh]; exact r.val j d e, fun j kk xs e => ?_⟩
 ·by_cases e : b = p
  ·subst e; rw [bV]; rfl
  ·rw [bG e]; exact r.own b hb
 ·obtain ⟨a, o, vs', e1, m, h1, ko, q, u⟩ := r.lst j kk xs e
  refine ⟨a, o, vs', e1, m, ?_, ko, by rw [hh]; exact q, u⟩
  have : a ≠ p := fun z => r.dis a m (z ▸ List.mem_cons_self)
  rw [bG this]; exact h1
end
def yO (is : List Nat) (t : Tg) : Prop := ∀ d st s2, t d st = .ok s2 -> s2.length = st.length /\ ∀ (j : Nat), j ∉ is -> s2[j]? = st[j]?
theorem gK {i : Nat} : yO [i] (tgN i) := fun d st s2 h => by
 cases h
 refine ⟨List.length_set, fun j hj => ?_⟩
 rw [List.getElem?_set, if_neg fun z => hj (by simp [z])]
theorem aP0 {is : List Nat} : yO is (tgT is) := by
 have key : ∀ (is : List Nat) (ds : List D) (st s2 : PSt), lE is ds st = .ok s2 -> s2.length = st.length /\ ∀ (j : Nat), j ∉ is -> s2[j]? = st[j]? := by
  intro is
  induction is with
  | nil => intro ds st s2 h; cases ds with | nil => cases h; exact ⟨rfl, fun _ _ => rfl⟩ | cons _ _ => cases h
  | cons i is ih =>
   intro ds st s2 h
   cases ds with
   | nil => cases h
   | cons d ds =>
    obtain ⟨h1, h2⟩ := ih ds _ s2 h
    refine ⟨by rw [h1, List.length_set], fun j hj => ?_⟩
    rw [h2 j fun z => hj (List.mem_cons_of_mem _ z), List.getElem?_set, if_neg (show ¬ i = j from fun z => hj (z ▸ List.mem_cons_self))]
 intro d st s2 h
 cases d <;> first | (cases h; done) | exact key is _ st s2 h
def ndB : List Str -> Bool
 | [] => true
 | x :: r => !r.contains x && ndB r
theorem aP1 : ∀ {l : List Str}, ndB l = true -> l.Nodup
 | [], _ => .nil
 | x :: r, h => by
  unfold ndB at h
  simp only [Bool.and_eq_true, Bool.not_eq_true'] at h
  exact List.nodup_cons.mpr ⟨fun z => by rw [List.contains_iff_mem.mpr z] at h; exact Bool.noConfusion h.1, aP1 h.2⟩
def aUu (scope : Scope) (outer : List (Str × NameKind)) (N : List Str) (is : List Nat) : Bool :=
 scope.kind == .function && ndB (scope.names.map (·.1)) && scope.names.all (fun x => x.2 != .free || outer.lookup x.1 == some .cell || outer.lookup x.1 == some .free) &&
  (List.range N.length).all fun i => (scope.names.lookup (N.getD i "") != some .local && scope.names.lookup (N.getD i "") != some .cell) || is.contains i
theorem CScope.of {X : Cx} {scope : Scope} {is : List Nat} (h : aUu scope X.env.scope.names X.N is = true) : CScope X scope is := by
 unfold aUu at h
 simp only [Bool.and_eq_true, List.all_eq_true] at h
 obtain ⟨⟨⟨h1, h0⟩, h2⟩, h3⟩ := h
 refine ⟨by simpa using h1, aP1 h0, fun x hx hf => ?_, fun i x e hl => ?_⟩
 ·have := h2 x hx
  simp only [Bool.or_eq_true, bne_iff_ne, ne_eq, beq_iff_eq] at this
  rcases this with (z | z) | z
  ·exact absurd hf z
  ·exact .inl z
  ·exact .inr z
 ·have hi : i < X.N.length := (List.getElem?_eq_some_iff.mp e).1
  have := h3 i (List.mem_range.mpr hi)
  rw [List.getD_eq_getElem?_getD, e] at this
  simp only [Option.getD_some, Bool.or_eq_true, Bool.and_eq_true, bne_iff_ne, ne_eq] at this
  rcases this with ⟨z1, z2⟩ | z
  ·rcases hl with hl | hl
   ·exact absurd hl z1
   ·exact absurd hl z2
  ·simpa using z
theorem aN9 {K : PySem.W.Frag} {B : List Addr} {f : Ex} {τ : LSt} {H : Hp} (Q Q' : VK) (m : ∀ v H', Q v H' -> Q' v H') (h : tI K B f τ H Q) : tI K B f τ H Q' :=
 let ⟨A, st, d, rs, hd, q⟩ := h; ⟨A, st, d, rs, hd, fun v H' s r => m v H' (q v H' s r)⟩
def tIx (K : PySem.W.Frag) (f : Ex) : TE := fun τ H Q => ∃ B, tI K B f τ H Q
def tTx (K : PySem.W.Frag) (f : Ex) : TT := fun τ H Q => ∃ B, tT K B f τ H Q
def tGx (K : PySem.W.Frag) (t : Tg) : TG := fun v τ H Q => ∃ B, tG K B t v τ H Q
theorem aNa {X : Cx} {e : Expr} {f : Ex} (h : ∀ B, PE X e (tI X.K B f)) : PE X e (tIx X.K f) := fun pins s σ H Q I ⟨B, q⟩ => h B pins s σ H Q I q
theorem aXi {X : Cx} {e : Expr} {f : Ex} (h : ∀ B, PT X e (tT X.K B f)) : PT X e (tTx X.K f) := fun pins s σ H Q I ⟨B, q⟩ => h B pins s σ H Q I q
theorem aNb {X : Cx} {e : Expr} {t : Tg} (h : ∀ B, PG X e (tG X.K B t)) : PG X e (tGx X.K t) := fun pins s σ H v u Q I r ⟨B, q⟩ => h B pins s σ H v u Q I r q
theorem tZ {K : PySem.W.Frag} {f : Ex} {τ : LSt} {H : Hp} (Q Q' : VK) (m : ∀ v H', Q v H' -> Q' v H') (h : tIx K f τ H Q) : tIx K f τ H Q' := let ⟨B, q⟩ := h; ⟨B, aN9 Q Q' m q⟩
theorem aGi {K : PySem.W.Frag} {B : List Addr} {is : List Nat} {t : Tg} {it : ItE} {c f : Ex} {tt : TT} {σ : LSt} {H : Hp} (hsub : yO is t)
  (htt : ∀ τ H Q, tTx K c τ H Q -> tt τ H Q) {A : List Addr} {st : PSt} {xs ys : List D} (rs : RS K B A H st σ) (hx : it st = .ok xs) (hl : xs.length <= big) (hy : lF t c f (clr is st) xs = .ok ys) {Q : VK}
  (q : ∀ p vs H1 H', aP H H1 -> H1 p = none -> aP H1 H' -> H' p = some (.lst vs) -> aW K (hide (A ++ p :: B) H') ys vs -> Q (.ref p) H') : tLC is (tIt K B it) (tGx K t) tt (tIx K f) σ H Q := by
 refine ⟨A, st, xs, rs, hx, fun J H1 s1 ito p hp => ?_⟩
 have rs1 := rs.mono s1
 refine ⟨fun i m τ vs H' => m = xs.length - i /\ i <= xs.length /\ vs.length <= i /\ H' p = some (.lst vs) /\ aP H1 H' /\ RS K (p :: B) A H' (clr is st) τ /\
   ∃ ds rest, aW K (hide (A ++ p :: B) H') ds vs /\ lF t c f (clr is st) (xs.drop i) = .ok rest /\ ds ++ rest = ys, ⟨xs.length, by simp, Nat.zero_le _, Nat.zero_le _, bV, cI hp, (rs1.clr is).grow hp, [], ys, .nil, by rw [List.drop_zero]; exact hy, rfl⟩, ?_⟩
 rintro i m τ vs H' ⟨rfl, hi, hvl, hpv, s2, rs2, ds, rest, rds, hr, hcat⟩
 refine ⟨hpv, ?_⟩
 have mv : ∀ a, a ∈ (p :: A) ++ B ↔ a ∈ A ++ p :: B := fun a => by
  rw [mem_mid]
  exact List.mem_cons
 have le : Le A H1 (p :: A) H' := fun b u z => by
  have z1 := aX _ _ _ _ z
  have hb : b ∉ A := fun w => by rw [dY w] at z; cases z
  have ne : b ≠ p := aU z1 hp
  rw [bO (show b ∉ p :: A from fun w => (List.mem_cons.mp w).elim ne hb)]
  exact s2 b u z1
 obtain ⟨i1, i2⟩ := ito (p :: A) H' le (fun a ha => rs2.own a ((mv a).mp ha)) i
 by_cases hlt : i < xs.length
 ·have hd' : xs[i]? = some xs[i] := List.getElem?_eq_getElem hlt
  obtain ⟨go, yl⟩ := i1 _ hd'
  rw [List.drop_eq_getElem_cons hlt] at hr
  obtain ⟨st2, hst2, h5⟩ := R.ok_of hr
  obtain ⟨cb, hcb, h6⟩ := R.ok_of h5
  obtain ⟨k, rfl, h7⟩ := oY h6
  refine .inr ⟨go, fun x H2 y => ?_⟩
  obtain ⟨sm3, rx⟩ := yl x H2 y
  have hpv := sm3 _ _ hpv
  have s2 := s2.trans sm3
  have rs2 := rs2.mono sm3
  have rds := rds.mono (aP.hide sm3)
  have rx' : Rep K (hide (A ++ p :: B) H2) xs[i] x := rx.mono (dI fun a ha => (mv a).mpr ha)
  obtain ⟨sl, sg⟩ := hsub _ _ _ hst2
  have back : ∀ (j : Nat) (z : Sl), (clr is st)[j]? = some (some z) -> st2[j]? = some (some z) := fun j z ez => by rw [sg j (wX is st j z ez).2]; exact ez
  refine ⟨p :: B, A, clr is st, xs[i], st2, rs2, rx', hst2, fun τ2 rs3 => htt _ _ _ ⟨p :: B, A, st2, k, rs3, hcb, fun H3 s3 => ?_⟩⟩
  cases k with
  | true =>
   obtain ⟨y', hy', h8⟩ := R.ok_of h7
   obtain ⟨rest', hrest', h9⟩ := R.ok_of h8
   cases h9
   refine ⟨p :: B, A, st2, y', rs3.mono s3, hy', fun v H4 s4 r4 => ⟨s4 _ _ (s3 _ _ hpv), ?_, xs.length - (i + 1), by omega, rfl, hlt, by rw [List.length_append, List.length_singleton]; omega, bV, ?_, ?_, ds ++ [y'], rest', ?_, hrest', by rw [List.append_assoc]; exact hcat⟩⟩
   ·have : sizeLine = 16777216 := by decide
    have hbg := jZ
    omega
   ·exact fun b u z => by rw [bG (aU z hp)]; exact s4 _ _ (s3 _ _ (s2 b u z))
   ·exact (((rs3.mono s3).mono s4).weaken (by rw [sl]) back).put
   ·rw [tM (mem_mid.mpr (.inl rfl))]
    exact (rds.mono (aP.hide (s3.trans s4))).append (.cons r4 .nil)
  | false => exact ⟨xs.length - (i + 1), by omega, rfl, hlt, by omega, s3 _ _ hpv, s2.trans s3, (rs3.mono s3).weaken (by rw [sl]) back, ds, rest, rds.mono (aP.hide s3), h7, hcat⟩
 ·have e : i = xs.length := by omega
  subst e
  rw [List.drop_length] at hr
  cases hr
  rw [List.append_nil] at hcat
  subst hcat
  exact .inl ⟨i2 (Nat.le_refl _), q p vs H1 H' s1 hp s2 hpv rds⟩
section
variable {X : Cx} {B : List Addr} {scope : Scope} {elt tg iter c : Expr} {pos : Pos} {t : Tg} {it : ItE} {f u : Ex}
theorem aUv {Y : Cx} {te : TE} {tt : TT} (hY : Y.xe = fun _ _ => False) (he : PE Y elt te) (ht : PT Y c tt) {it p : Addr} (τ : LSt) (H : Hp) (s : Shared) (pins : List (Addr × Obj)) (vs : List V) (N : Hp -> List V -> Prop) (Q : Fin -> Shared -> Prop) (I : Inv Y pins τ H s)
  (h : tt τ H fun k H3 => if k = true then te τ H3 fun y H4 => H4 p = some (.lst vs) /\ vs.length < sizeLine /\ N (upd H4 p (.lst (vs ++ [y]))) (vs ++ [y]) else N H3 vs)
  (mono : ∀ H (Q Q' : VK), (∀ v H', Q v H' -> Q' v H') -> te τ H Q -> te τ H Q')
  (q : ∀ s' H' ws, Inv Y pins τ H' s' -> N H' ws -> Q (.again (.compLoop (.ListComp elt [⟨tg, iter, [c], 0⟩] scope pos) 0 (.ref it) (.ref p) Y.env)) s') :
  wpAny (model Y.prog Y.w) Y.A (isTrue c Y.env (eval c Y.env) >>= fun ok => if ok = true then (eval elt Y.env >>= fun x => call (.builtin "list.append") [.ref p, x] >>= fun _ => again (.compLoop (.ListComp elt [⟨tg, iter, [c], 0⟩] scope pos) 0 (.ref it) (.ref p) Y.env))
        else again (.compLoop (.ListComp elt [⟨tg, iter, [c], 0⟩] scope pos) 0 (.ref it) (.ref p) Y.env)) Q (fun _ _ => False) s := by
 have ht' := ht pins s τ H _ I h
 rw [hY] at ht'
 refine wpAny_bind (thn ht' fun k s1 ⟨H1, I1, q1⟩ => ?_)
 cases k with
 | true =>
  rw [if_pos rfl]
  have q1 : te τ H1 fun y H4 => H4 p = some (.lst vs) /\ vs.length < sizeLine /\ N (upd H4 p (.lst (vs ++ [y]))) (vs ++ [y]) := q1
  exact aAu he (by rw [hY]; exact fun _ _ z => z) I1 (mono _ _ _ (fun y H4 ⟨a, b, n⟩ => ⟨a, b, fun s' I' => wpAny_pure (q s' _ _ I' n)⟩) q1)
 | false =>
  rw [if_neg Bool.false_ne_true]
  exact wpAny_pure (q s1 H1 vs I1 q1)
theorem aF2 {σ : LSt} {H : Hp} {Q : VK} {st : PSt} {A : List Addr} {ys : List D} {p : Addr} {vs : List V} {H1 H' : Hp} (rs : RS X.K B A H st σ) (q : ∀ v H', aP H H' -> Rep X.K (hide (A ++ B) H') (.lst ys) v -> Q v H') (s1 : aP H H1) (hp : H1 p = none) (s2 : aP H1 H')
  (hv : H' p = some (.lst vs)) (r : aW X.K (hide (A ++ p :: B) H') ys vs) : Q (.ref p) H' :=
 q _ H' (s1.trans s2) (bL.mpr ⟨p, vs, rfl, SqL.of (by rw [bO ((rs.own.mono s1).free hp)]; exact hv), r.mono (dI fun a ha => mem_mid.mpr (.inr ha))⟩)
theorem fV (is : List Nat) (hsub : yO is t) (S : CScope X scope is) (hi : L2.PI X tg iter (tIt X.K B it)) (hg : ∀ (B : List Addr) (C : Addr) (s₀ : Shared) (H₀ : Hp) (fp : List Addr), PG (cL X scope C s₀ H₀ fp) tg (tG X.K B t))
  (he : ∀ (B : List Addr) (C : Addr) (s₀ : Shared) (H₀ : Hp) (fp : List Addr), PE (cL X scope C s₀ H₀ fp) elt (tI X.K B f)) (hc : X.calm = true) (hs : ∀ x, foldedSetIterable iter X.env x = pure x := by intro _; rfl) :
  PE X (.ListComp elt [⟨tg, iter, [], 0⟩] scope pos) (tI X.K B (cD is t it cB f)) := by
 intro pins s σ H Q I h
 obtain ⟨A, st, d, rs, hd, q⟩ := h
 obtain ⟨xs, hx, h2⟩ := R.ok_of hd
 obtain ⟨hl, h3⟩ := aJ h2
 obtain ⟨ys, hy, h4⟩ := R.ok_of h3
 cases h4
 rw [eval_ListComp]
 refine pZ (use := none) (Qf := EP X pins σ Q) (Q := Q) (tt := wW) (te := tIx X.K f) (rest := fun env it p => eval elt env >>= fun x => call (.builtin "list.append") [p, x] >>= fun _ => again (.compLoop (.ListComp elt [⟨tg, iter, [], 0⟩] scope pos) 0 it p env)) S hc hi (fun C s₀ H₀ fp => aNb fun B => hg B C s₀ H₀ fp) (fun _ _ _ => nU)
  (fun C s₀ H₀ fp it p s Q h => aRh (Y := cL X scope C s₀ H₀ fp) h) (fun C s₀ H₀ fp it p τ H s pins vs N Q I h q => aKr (Y := cL X scope C s₀ H₀ fp) rfl (aNa fun B => he B C s₀ H₀ fp) τ H s pins vs N Q I h (fun Q Q' m h => tZ Q Q' m h) q) hs I
  (aGi hsub (fun τ H Q ⟨B, A, st, k, rs, hk, q⟩ => ?_) rs hx hl hy fun p vs H1 H' s1 hp s2 hv r => aF2 rs q s1 hp s2 hv r) fun C p H5 s5 m5 s3 H3 fp τ hC I3 hfp I5 hn5 q5 => ⟨m5, hn5, fun h' hs' => ⟨.ref p, H5, wV I3 hfp hC I5 hs', rfl, q5⟩⟩
 cases hk
 exact q H (aP.refl _)
theorem aKs (is : List Nat) (hsub : yO is t) (S : CScope X scope is) (hi : L2.PI X tg iter (tIt X.K B it)) (hg : ∀ (B : List Addr) (C : Addr) (s₀ : Shared) (H₀ : Hp) (fp : List Addr), PG (cL X scope C s₀ H₀ fp) tg (tG X.K B t))
  (ht : ∀ (B : List Addr) (C : Addr) (s₀ : Shared) (H₀ : Hp) (fp : List Addr), PT (cL X scope C s₀ H₀ fp) c (tT X.K B u))
  (he : ∀ (B : List Addr) (C : Addr) (s₀ : Shared) (H₀ : Hp) (fp : List Addr), PE (cL X scope C s₀ H₀ fp) elt (tI X.K B f)) (hc : X.calm = true) (hs : ∀ x, foldedSetIterable iter X.env x = pure x := by intro _; rfl) :
  PE X (.ListComp elt [⟨tg, iter, [c], 0⟩] scope pos) (tI X.K B (cD is t it u f)) := by
 intro pins s σ H Q I h
 obtain ⟨A, st, d, rs, hd, q⟩ := h
 obtain ⟨xs, hx, h2⟩ := R.ok_of hd
 obtain ⟨hl, h3⟩ := aJ h2
 obtain ⟨ys, hy, h4⟩ := R.ok_of h3
 cases h4
 rw [eval_ListComp]
 exact pZ (use := none) (Qf := EP X pins σ Q) (Q := Q) (tt := tTx X.K u) (te := tIx X.K f) (rest := fun env it p => isTrue c env (eval c env) >>= fun ok => if ok = true then (eval elt env >>= fun x => call (.builtin "list.append") [p, x] >>= fun _ => again (.compLoop (.ListComp elt [⟨tg, iter, [c], 0⟩] scope pos) 0 it p env)) else again (.compLoop (.ListComp elt [⟨tg, iter, [c], 0⟩] scope pos) 0 it p env)) S hc hi (fun C s₀ H₀ fp => aNb fun B => hg B C s₀ H₀ fp) (fun _ _ _ => nU)
  (fun C s₀ H₀ fp it p s Q h => aXh (Y := cL X scope C s₀ H₀ fp) h) (fun C s₀ H₀ fp it p τ H s pins vs N Q I h q => aUv (Y := cL X scope C s₀ H₀ fp) rfl (aNa fun B => he B C s₀ H₀ fp) (aXi fun B => ht B C s₀ H₀ fp) τ H s pins vs N Q I h (fun _ Q Q' m h => tZ Q Q' m h) q) hs I
  (aGi hsub (fun τ H Q h => h) rs hx hl hy fun p vs H1 H' s1 hp s2 hv r => aF2 rs q s1 hp s2 hv r) fun C p H5 s5 m5 s3 H3 fp τ hC I3 hfp I5 hn5 q5 => ⟨m5, hn5, fun h' hs' => ⟨.ref p, H5, wV I3 hfp hC I5 hs', rfl, q5⟩⟩
end
end Pu
namespace Pu
open PySem PySem.Spec PyProof.Rows L2 PySem.SeqAt
section
variable {X : Cx} {pins : List (Addr × Obj)} {σ : LSt} {H : Hp} {s : Shared}
theorem aGj (I : Inv X pins σ H s) {a : Addr} {xs ys : List V} (h1 : SqL X.K H a xs) (h2 : SqT X.K H a ys) : False := by
 obtain ⟨its, _, ⟨o, n, e, hc, _⟩, _⟩ := I.list h1
 obtain ⟨its2, _, ⟨o2, e2, hc2, _⟩, _⟩ := I.tuple h2
 rw [e] at e2; cases e2
 rw [hc] at hc2; simp at hc2
mutual
theorem Rep.inj (I : Inv X pins σ H s) : ∀ {x y : D} {v : V}, plain x = true -> plain y = true -> Rep X.K H x v -> Rep X.K H y v -> x = y
 | .non, y, v, px, py, h, h' => by
  have e := bU.mp h; subst e
  cases y <;> first | (simp at py; done) | skip
  all_goals simp only [bU, bA, aN, aR, lL, bL] at h'
  all_goals first | rfl | (obtain ⟨_, _, h', _⟩ := h'; cases h'; done) | (cases h'; done)
 | .bl b, y, v, px, py, h, h' => by
  have e := bA.mp h; subst e
  cases y <;> first | (simp at py; done) | skip
  all_goals simp only [bU, bA, aN, aR, lL, bL] at h'
  all_goals first | (obtain ⟨_, _, h', _⟩ := h'; cases h'; done) | (cases h'; first | rfl | done)
 | .int i, y, v, px, py, h, h' => by
  have e := aN.mp h; subst e
  cases y <;> first | (simp at py; done) | skip
  all_goals simp only [bU, bA, aN, aR, lL, bL] at h'
  all_goals first | (obtain ⟨_, _, h', _⟩ := h'; cases h'; done) | (cases h'; first | rfl | done)
 | .str x, y, v, px, py, h, h' => by
  have e := aR.mp h; subst e
  cases y with
  | dct _ _ _ => simp at py
  | ins _ _ _ => simp at py
  | exn _ _ _ => simp at py
  | str z =>
   have e2 := aR.mp h'
   injection e2 with e2
   injection e2 with e2
   have : x = z := by simpa using congrArg Array.toList e2
   rw [this]
  | non => exact nomatch bU.mp h'
  | bl _ => exact nomatch bA.mp h'
  | int _ => exact nomatch aN.mp h'
  | tup _ => obtain ⟨_, _, h', _⟩ := aY h'; cases h'
  | lst _ => obtain ⟨_, _, h', _⟩ := bL.mp h'; cases h'
 | .tup ds, y, v, px, py, h, h' => by
  obtain ⟨a, vs, e, hq, hr⟩ := aY h
  subst e
  cases y with
  | dct _ _ _ => simp at py
  | ins _ _ _ => simp at py
  | exn _ _ _ => simp at py
  | tup es =>
   obtain ⟨a', vs', e', hq', hr'⟩ := aY h'
   cases e'
   have := I.tuple_inj hq hq'
   subst this
   rw [aW.inj I (by simpa using px) (by simpa using py) hr hr']
  | lst es =>
   obtain ⟨a', vs', e', hq', hr'⟩ := bL.mp h'
   cases e'
   exact (aGj I hq' hq).elim
  | non => exact nomatch bU.mp h'
  | bl _ => exact nomatch bA.mp h'
  | int _ => exact nomatch aN.mp h'
  | str _ => exact nomatch aR.mp h'
 | .lst ds, y, v, px, py, h, h' => by
  obtain ⟨a, vs, e, hq, hr⟩ := bL.mp h
  subst e
  cases y with
  | dct _ _ _ => simp at py
  | ins _ _ _ => simp at py
  | exn _ _ _ => simp at py
  | lst es =>
   obtain ⟨a', vs', e', hq', hr'⟩ := bL.mp h'
   cases e'
   have := I.list_inj hq hq'
   subst this
   rw [aW.inj I (by simpa using px) (by simpa using py) hr hr']
  | tup es =>
   obtain ⟨a', vs', e', hq', hr'⟩ := aY h'
   cases e'
   exact (aGj I hq hq').elim
  | non => exact nomatch bU.mp h'
  | bl _ => exact nomatch bA.mp h'
  | int _ => exact nomatch aN.mp h'
  | str _ => exact nomatch aR.mp h'
 | .dct _ _ _, y, v, px, py, h, h' => by simp at px
 | .ins _ _ _, y, v, px, py, h, h' => by simp at px
 | .exn _ _ _, y, v, px, py, h, h' => by simp at px
theorem aW.inj (I : Inv X pins σ H s) : ∀ {xs ys : List D} {vs : List V}, cF xs = true -> cF ys = true -> aW X.K H xs vs -> aW X.K H ys vs -> xs = ys
 | [], ys, vs, px, py, h, h' => by
  have e := cC.mp h; subst e
  cases ys with
  | nil => rfl
  | cons y ys => obtain ⟨_, _, h', _⟩ := bB.mp h'; cases h'
 | x :: xs, ys, vs, px, py, h, h' => by
  obtain ⟨v, r, e, h1, h2⟩ := bB.mp h
  subst e
  cases ys with
  | nil => exact nomatch cC.mp h'
  | cons y ys =>
   obtain ⟨v', r', e', h1', h2'⟩ := bB.mp h'
   cases e'
   simp only [eY, Bool.and_eq_true] at px py
   rw [Rep.inj I px.1 py.1 h1 h1', aW.inj I px.2 py.2 h2 h2']
end
mutual
theorem yP : ∀ x : D, plain x = true -> eqD x x = true
 | .non, _ => by unfold eqD; rfl
 | .bl b, _ => by unfold eqD; simp
 | .int i, _ => by unfold eqD; simp
 | .str x, _ => by unfold eqD; simp
 | .tup x, h => by unfold eqD; exact uY x (by simpa using h)
 | .lst x, h => by unfold eqD; exact uY x (by simpa using h)
 | .dct _ _ _, h => by simp at h
 | .ins _ _ _, h => by simp at h
 | .exn _ _ _, h => by simp at h
theorem uY : ∀ x : List D, cF x = true -> dZ x x = true
 | [], _ => by unfold dZ; rfl
 | a :: x, h => by
  simp only [eY, Bool.and_eq_true] at h
  unfold dZ; rw [yP a h.1, uY x h.2]; rfl
end
def pairE (xs ys : List D) (j : Nat) : Bool := eqD (xs.getD j .non) (ys.getD j .non)
theorem jX : ∀ xs ys : List D, ((List.range (min xs.length ys.length)).all (pairE xs ys) && xs.length == ys.length) = dZ xs ys
 | [], [] => by unfold dZ; rfl
 | [], _ :: _ => by unfold dZ; simp
 | _ :: _, [] => by unfold dZ; simp
 | x :: xs, y :: ys => by
  have ih := jX xs ys
  have e : dZ (x :: xs) (y :: ys) = (eqD x y && dZ xs ys) := by conv => lhs; unfold dZ
  rw [e, <- ih]
  have hm : min (x :: xs).length (y :: ys).length = min xs.length ys.length + 1 := by simp only [List.length_cons]; omega
  rw [hm, List.range_succ_eq_map, List.all_cons, List.all_map]
  have e1 : pairE (x :: xs) (y :: ys) 0 = eqD x y := rfl
  have e2 : (pairE (x :: xs) (y :: ys) ∘ Nat.succ) = pairE xs ys := rfl
  rw [e1, e2, Bool.and_assoc]
  congr 1
  simp
theorem rP {xs ys : List D} (h : xs.length ≠ ys.length) : dZ xs ys = false := by
 rw [<- jX]; simp [h]
mutual
theorem yQ (I : Inv X pins σ H s) : ∀ (x y : D) (A : Around) (v u : V) (a b : Value), Rep X.K H x v -> Rep X.K H y u -> RelV v a -> RelV u b -> A.units + dep x < cLine -> plain x = true -> plain y = true -> EqAt A s a b (eqD x y)
 | .non, y, A, v, u, a, b, ra, rb, va, vb, hu, px, py => by
  have zv := bU.mp ra; subst zv; have za : a = Value.none := va; subst za
  cases y with
  | dct _ _ _ => simp at py
  | ins _ _ _ => simp at py
  | exn _ _ _ => simp at py
  | non =>
   have zu := bU.mp rb; subst zu; have zb : b = Value.none := vb; subst zb
   have e : eqD (.non) (.non) = eqD _ _ := rfl
   unfold eqD
   exact EqAt.same _
  | bl y =>
   have zu := bA.mp rb; subst zu; have zb : b = Value.bool y := vb; subst zb
   have e : eqD (.non) (.bl y) = eqD _ _ := rfl
   unfold eqD
   exact EqAt.none_bool y
  | int y =>
   have zu := aN.mp rb; subst zu; obtain ⟨tb, zb⟩ : ∃ t, b = Value.int y t := vb; subst zb
   have e : eqD (.non) (.int y) = eqD _ _ := rfl
   unfold eqD
   exact EqAt.none_int y tb
  | str y =>
   have zu := aR.mp rb; subst zu; obtain ⟨tb, zb⟩ : ∃ t, b = Value.str ⟨y.toArray⟩ t := vb; subst zb
   have e : eqD (.non) (.str y) = eqD _ _ := rfl
   unfold eqD
   exact EqAt.none_str _ tb
  | tup y =>
   obtain ⟨lb, wsb, zu, hqb, hrb⟩ := aY rb; subst zu; have zb : b = Value.ref lb := vb; subst zb; obtain ⟨itsb, rvb, plb, _⟩ := I.tuple hqb; have ilb : s.heap.IsTuple lb itsb.toArray := plb
   have e : eqD (.non) (.tup y) = eqD _ _ := rfl
   unfold eqD
   exact EqAt.none_tuple ilb (Nat.lt_of_le_of_lt (Nat.le_add_right _ _) hu)
  | lst y =>
   obtain ⟨lb, wsb, zu, hqb, hrb⟩ := bL.mp rb; subst zu; have zb : b = Value.ref lb := vb; subst zb; obtain ⟨itsb, rvb, plb, _⟩ := I.list hqb; have ilb := plb.isList
   have e : eqD (.non) (.lst y) = eqD _ _ := rfl
   unfold eqD
   exact EqAt.none_list ilb (Nat.lt_of_le_of_lt (Nat.le_add_right _ _) hu)
 | .bl x, y, A, v, u, a, b, ra, rb, va, vb, hu, px, py => by
  have zv := bA.mp ra; subst zv; have za : a = Value.bool x := va; subst za
  cases y with
  | dct _ _ _ => simp at py
  | ins _ _ _ => simp at py
  | exn _ _ _ => simp at py
  | non =>
   have zu := bU.mp rb; subst zu; have zb : b = Value.none := vb; subst zb
   have e : eqD (.bl x) (.non) = eqD _ _ := rfl
   unfold eqD
   exact EqAt.bool_none x
  | bl y =>
   have zu := bA.mp rb; subst zu; have zb : b = Value.bool y := vb; subst zb
   have e : eqD (.bl x) (.bl y) = eqD _ _ := rfl
   unfold eqD
   exact EqAt.bool_bool x y
  | int y =>
   have zu := aN.mp rb; subst zu; obtain ⟨tb, zb⟩ : ∃ t, b = Value.int y t := vb; subst zb
   have e : eqD (.bl x) (.int y) = eqD _ _ := rfl
   unfold eqD
   exact EqAt.bool_int x y tb
  | str y =>
   have zu := aR.mp rb; subst zu; obtain ⟨tb, zb⟩ : ∃ t, b = Value.str ⟨y.toArray⟩ t := vb; subst zb
   have e : eqD (.bl x) (.str y) = eqD _ _ := rfl
   unfold eqD
   exact EqAt.bool_str x _ tb
  | tup y =>
   obtain ⟨lb, wsb, zu, hqb, hrb⟩ := aY rb; subst zu; have zb : b = Value.ref lb := vb; subst zb; obtain ⟨itsb, rvb, plb, _⟩ := I.tuple hqb; have ilb : s.heap.IsTuple lb itsb.toArray := plb
   have e : eqD (.bl x) (.tup y) = eqD _ _ := rfl
   unfold eqD
   exact EqAt.bool_tuple x ilb (Nat.lt_of_le_of_lt (Nat.le_add_right _ _) hu)
  | lst y =>
   obtain ⟨lb, wsb, zu, hqb, hrb⟩ := bL.mp rb; subst zu; have zb : b = Value.ref lb := vb; subst zb; obtain ⟨itsb, rvb, plb, _⟩ := I.list hqb; have ilb := plb.isList
   have e : eqD (.bl x) (.lst y) = eqD _ _ := rfl
   unfold eqD
   exact EqAt.bool_list x ilb (Nat.lt_of_le_of_lt (Nat.le_add_right _ _) hu)
 | .int x, y, A, v, u, a, b, ra, rb, va, vb, hu, px, py => by
  have zv := aN.mp ra; subst zv; obtain ⟨ta, za⟩ : ∃ t, a = Value.int x t := va; subst za
  cases y with
  | dct _ _ _ => simp at py
  | ins _ _ _ => simp at py
  | exn _ _ _ => simp at py
  | non =>
   have zu := bU.mp rb; subst zu; have zb : b = Value.none := vb; subst zb
   have e : eqD (.int x) (.non) = eqD _ _ := rfl
   unfold eqD
   exact EqAt.int_none x ta
  | bl y =>
   have zu := bA.mp rb; subst zu; have zb : b = Value.bool y := vb; subst zb
   have e : eqD (.int x) (.bl y) = eqD _ _ := rfl
   unfold eqD
   exact EqAt.int_bool x ta y
  | int y =>
   have zu := aN.mp rb; subst zu; obtain ⟨tb, zb⟩ : ∃ t, b = Value.int y t := vb; subst zb
   have e : eqD (.int x) (.int y) = eqD _ _ := rfl
   unfold eqD
   exact EqAt.int_int x ta y tb
  | str y =>
   have zu := aR.mp rb; subst zu; obtain ⟨tb, zb⟩ : ∃ t, b = Value.str ⟨y.toArray⟩ t := vb; subst zb
   have e : eqD (.int x) (.str y) = eqD _ _ := rfl
   unfold eqD
   exact EqAt.int_str x ta _ tb
  | tup y =>
   obtain ⟨lb, wsb, zu, hqb, hrb⟩ := aY rb; subst zu; have zb : b = Value.ref lb := vb; subst zb; obtain ⟨itsb, rvb, plb, _⟩ := I.tuple hqb; have ilb : s.heap.IsTuple lb itsb.toArray := plb
   have e : eqD (.int x) (.tup y) = eqD _ _ := rfl
   unfold eqD
   exact EqAt.int_tuple x ta ilb (Nat.lt_of_le_of_lt (Nat.le_add_right _ _) hu)
  | lst y =>
   obtain ⟨lb, wsb, zu, hqb, hrb⟩ := bL.mp rb; subst zu; have zb : b = Value.ref lb := vb; subst zb; obtain ⟨itsb, rvb, plb, _⟩ := I.list hqb; have ilb := plb.isList
   have e : eqD (.int x) (.lst y) = eqD _ _ := rfl
   unfold eqD
   exact EqAt.int_list x ta ilb (Nat.lt_of_le_of_lt (Nat.le_add_right _ _) hu)
 | .str x, y, A, v, u, a, b, ra, rb, va, vb, hu, px, py => by
  have zv := aR.mp ra; subst zv; obtain ⟨ta, za⟩ : ∃ t, a = Value.str ⟨x.toArray⟩ t := va; subst za
  cases y with
  | dct _ _ _ => simp at py
  | ins _ _ _ => simp at py
  | exn _ _ _ => simp at py
  | non =>
   have zu := bU.mp rb; subst zu; have zb : b = Value.none := vb; subst zb
   have e : eqD (.str x) (.non) = eqD _ _ := rfl
   unfold eqD
   exact EqAt.str_none _ ta
  | bl y =>
   have zu := bA.mp rb; subst zu; have zb : b = Value.bool y := vb; subst zb
   have e : eqD (.str x) (.bl y) = eqD _ _ := rfl
   unfold eqD
   exact EqAt.str_bool _ ta y
  | int y =>
   have zu := aN.mp rb; subst zu; obtain ⟨tb, zb⟩ : ∃ t, b = Value.int y t := vb; subst zb
   have e : eqD (.str x) (.int y) = eqD _ _ := rfl
   unfold eqD
   exact EqAt.str_int _ ta y tb
  | str y =>
   have zu := aR.mp rb; subst zu; obtain ⟨tb, zb⟩ : ∃ t, b = Value.str ⟨y.toArray⟩ t := vb; subst zb
   have e : eqD (.str x) (.str y) = ((⟨x.toArray⟩ : Str) == ⟨y.toArray⟩) := by rw [<- str_beq]; unfold eqD; simp
   rw [e]
   exact EqAt.str_str _ ta _ tb
  | tup y =>
   obtain ⟨lb, wsb, zu, hqb, hrb⟩ := aY rb; subst zu; have zb : b = Value.ref lb := vb; subst zb; obtain ⟨itsb, rvb, plb, _⟩ := I.tuple hqb; have ilb : s.heap.IsTuple lb itsb.toArray := plb
   have e : eqD (.str x) (.tup y) = eqD _ _ := rfl
   unfold eqD
   exact EqAt.str_tuple _ ta ilb (Nat.lt_of_le_of_lt (Nat.le_add_right _ _) hu)
  | lst y =>
   obtain ⟨lb, wsb, zu, hqb, hrb⟩ := bL.mp rb; subst zu; have zb : b = Value.ref lb := vb; subst zb; obtain ⟨itsb, rvb, plb, _⟩ := I.list hqb; have ilb := plb.isList
   have e : eqD (.str x) (.lst y) = eqD _ _ := rfl
   unfold eqD
   exact EqAt.str_list _ ta ilb (Nat.lt_of_le_of_lt (Nat.le_add_right _ _) hu)
 | .tup x, y, A, v, u, a, b, ra, rb, va, vb, hu, px, py => by
  obtain ⟨la, wsa, zv, hqa, hra⟩ := aY ra; subst zv; have za : a = Value.ref la := va; subst za; obtain ⟨itsa, rva, pla, _⟩ := I.tuple hqa; have ila : s.heap.IsTuple la itsa.toArray := pla
  cases y with
  | dct _ _ _ => simp at py
  | ins _ _ _ => simp at py
  | exn _ _ _ => simp at py
  | non =>
   have zu := bU.mp rb; subst zu; have zb : b = Value.none := vb; subst zb
   have e : eqD (.tup x) (.non) = eqD _ _ := rfl
   unfold eqD
   exact EqAt.tuple_none ila (Nat.lt_of_le_of_lt (Nat.le_add_right _ _) hu)
  | bl y =>
   have zu := bA.mp rb; subst zu; have zb : b = Value.bool y := vb; subst zb
   have e : eqD (.tup x) (.bl y) = eqD _ _ := rfl
   unfold eqD
   exact EqAt.tuple_bool y ila (Nat.lt_of_le_of_lt (Nat.le_add_right _ _) hu)
  | int y =>
   have zu := aN.mp rb; subst zu; obtain ⟨tb, zb⟩ : ∃ t, b = Value.int y t := vb; subst zb
   have e : eqD (.tup x) (.int y) = eqD _ _ := rfl
   unfold eqD
   exact EqAt.tuple_int y tb ila (Nat.lt_of_le_of_lt (Nat.le_add_right _ _) hu)
  | str y =>
   have zu := aR.mp rb; subst zu; obtain ⟨tb, zb⟩ : ∃ t, b = Value.str ⟨y.toArray⟩ t := vb; subst zb
   have e : eqD (.tup x) (.str y) = eqD _ _ := rfl
   unfold eqD
   exact EqAt.tuple_str _ tb ila (Nat.lt_of_le_of_lt (Nat.le_add_right _ _) hu)
  | tup y =>
   obtain ⟨lb, wsb, zu, hqb, hrb⟩ := aY rb; subst zu; have zb : b = Value.ref lb := vb; subst zb; obtain ⟨itsb, rvb, plb, _⟩ := I.tuple hqb; have ilb : s.heap.IsTuple lb itsb.toArray := plb
   have n1 : itsa.length = x.length := by rw [<- rva.length, hra.length]
   have n2 : itsb.length = y.length := by rw [<- rvb.length, hrb.length]
   have e : eqD (.tup x) (.tup y) = dZ x y := by conv => lhs; unfold eqD
   have hd : dep (.tup x) = dD x + 1 := by conv => lhs; unfold dep
   rw [hd] at hu
   have hin : A.in1.units + dD x < cLine := by show A.units + 1 + dD x < cLine; omega
   by_cases hll : la = lb
   ·subst hll
    have := Rep.inj I px py ra rb
    rw [this, yP _ py]
    exact EqAt.same _
   ·rw [e]
    have e3 : dZ x y = ((List.range (min itsa.toArray.size itsb.toArray.size)).all (pairE x y) && itsa.toArray.size == itsb.toArray.size) := by rw [<- jX, List.size_toArray, List.size_toArray, n1, n2]
    rw [e3]
    refine EqAt.of_refs hll (RcAt.tuples ila ilb (by omega) fun j j1 j2 => ?_)
    have := jH I x y A.in1 wsa wsb itsa itsb hra hrb rva rvb hin (by simpa using px) (by simpa using py) j (by simpa using j1) (by simpa using j2)
    simpa using this
  | lst y =>
   obtain ⟨lb, wsb, zu, hqb, hrb⟩ := bL.mp rb; subst zu; have zb : b = Value.ref lb := vb; subst zb; obtain ⟨itsb, rvb, plb, _⟩ := I.list hqb; have ilb := plb.isList
   have e : eqD (.tup x) (.lst y) = eqD _ _ := rfl
   unfold eqD
   exact EqAt.tuple_list ila ilb (Nat.lt_of_le_of_lt (Nat.le_add_right _ _) hu)
 | .lst x, y, A, v, u, a, b, ra, rb, va, vb, hu, px, py => by
  obtain ⟨la, wsa, zv, hqa, hra⟩ := bL.mp ra; subst zv; have za : a = Value.ref la := va; subst za; obtain ⟨itsa, rva, pla, _⟩ := I.list hqa; have ila := pla.isList
  cases y with
  | dct _ _ _ => simp at py
  | ins _ _ _ => simp at py
  | exn _ _ _ => simp at py
  | non =>
   have zu := bU.mp rb; subst zu; have zb : b = Value.none := vb; subst zb
   have e : eqD (.lst x) (.non) = eqD _ _ := rfl
   unfold eqD
   exact EqAt.list_none ila (Nat.lt_of_le_of_lt (Nat.le_add_right _ _) hu)
  | bl y =>
   have zu := bA.mp rb; subst zu; have zb : b = Value.bool y := vb; subst zb
   have e : eqD (.lst x) (.bl y) = eqD _ _ := rfl
   unfold eqD
   exact EqAt.list_bool y ila (Nat.lt_of_le_of_lt (Nat.le_add_right _ _) hu)
  | int y =>
   have zu := aN.mp rb; subst zu; obtain ⟨tb, zb⟩ : ∃ t, b = Value.int y t := vb; subst zb
   have e : eqD (.lst x) (.int y) = eqD _ _ := rfl
   unfold eqD
   exact EqAt.list_int y tb ila (Nat.lt_of_le_of_lt (Nat.le_add_right _ _) hu)
  | str y =>
   have zu := aR.mp rb; subst zu; obtain ⟨tb, zb⟩ : ∃ t, b = Value.str ⟨y.toArray⟩ t := vb; subst zb
   have e : eqD (.lst x) (.str y) = eqD _ _ := rfl
   unfold eqD
   exact EqAt.list_str _ tb ila (Nat.lt_of_le_of_lt (Nat.le_add_right _ _) hu)
  | tup y =>
   obtain ⟨lb, wsb, zu, hqb, hrb⟩ := aY rb; subst zu; have zb : b = Value.ref lb := vb; subst zb; obtain ⟨itsb, rvb, plb, _⟩ := I.tuple hqb; have ilb : s.heap.IsTuple lb itsb.toArray := plb
   have e : eqD (.lst x) (.tup y) = eqD _ _ := rfl
   unfold eqD
   exact EqAt.list_tuple ila ilb (Nat.lt_of_le_of_lt (Nat.le_add_right _ _) hu)
  | lst y =>
   obtain ⟨lb, wsb, zu, hqb, hrb⟩ := bL.mp rb; subst zu; have zb : b = Value.ref lb := vb; subst zb; obtain ⟨itsb, rvb, plb, _⟩ := I.list hqb; have ilb := plb.isList
   have n1 : itsa.length = x.length := by rw [<- rva.length, hra.length]
   have n2 : itsb.length = y.length := by rw [<- rvb.length, hrb.length]
   have e : eqD (.lst x) (.lst y) = dZ x y := by conv => lhs; unfold eqD
   have hd : dep (.lst x) = dD x + 1 := by conv => lhs; unfold dep
   rw [hd] at hu
   have hin : A.in1.units + dD x < cLine := by show A.units + 1 + dD x < cLine; omega
   by_cases hll : la = lb
   ·subst hll
    have := Rep.inj I px py ra rb
    rw [this, yP _ py]
    exact EqAt.same _
   ·rw [e]
    by_cases hsz : itsa.length = itsb.length
    ·have e3 : dZ x y = (List.range itsa.toArray.size).all (pairE x y) := by rw [<- jX, List.size_toArray, n1]; simp [show x.length = y.length by omega]
     rw [e3]
     refine EqAt.of_refs hll (RcAt.lists ila ilb (by simpa using hsz) (by omega) fun j j1 j2 => ?_)
     have := jH I x y A.in1 wsa wsb itsa itsb hra hrb rva rvb hin (by simpa using px) (by simpa using py) j (by simpa using j1) (by simpa using j2)
     simpa using this
    ·rw [rP (by omega)]
     exact EqAt.of_refs hll (RcAt.lists_lengths ila ilb (by simpa using hsz) (by omega))
 | .dct _ _ _, y, A, v, u, a, b, ra, rb, va, vb, hu, px, py => by simp at px
 | .ins _ _ _, y, A, v, u, a, b, ra, rb, va, vb, hu, px, py => by simp at px
 | .exn _ _ _, y, A, v, u, a, b, ra, rb, va, vb, hu, px, py => by simp at px
theorem jH (I : Inv X pins σ H s) : ∀ (xs ys : List D) (A : Around) (vs us : List V) (as bs : List Value), aW X.K H xs vs -> aW X.K H ys us -> Vals vs as -> Vals us bs -> A.units + dD xs < cLine -> cF xs = true -> cF ys = true -> ∀ (j : Nat) (h1 : j < as.length) (h2 : j < bs.length), EqAt A s as[j] bs[j] (pairE xs ys j)
 | [], _, A, vs, us, as, bs, ra, rb, va, vb, hu, px, py, j, h1, h2 => by
  have e := cC.mp ra; subst e; cases va; exact absurd h1 (Nat.not_lt_zero _)
 | x :: xs, [], A, vs, us, as, bs, ra, rb, va, vb, hu, px, py, j, h1, h2 => by
  have e := cC.mp rb; subst e; cases vb; exact absurd h2 (Nat.not_lt_zero _)
 | x :: xs, y :: ys, A, vs, us, as, bs, ra, rb, va, vb, hu, px, py, j, h1, h2 => by
  obtain ⟨v, r, e, p1, p2⟩ := bB.mp ra; subst e
  obtain ⟨u, r', e, q1, q2⟩ := bB.mp rb; subst e
  have hd : dD (x :: xs) = max (dep x) (dD xs) := by conv => lhs; unfold dD
  rw [hd] at hu
  simp only [eY, Bool.and_eq_true] at px py
  cases va with
  | cons va vas =>
   cases vb with
   | cons vb vbs =>
    cases j with
    | zero => exact yQ I x y A v u _ _ p1 q1 va vb (by omega) px.1 py.1
    | succ j => exact jH I xs ys A r r' _ _ p2 q2 vas vbs (by omega) px.2 py.2 j (Nat.lt_of_succ_lt_succ h1) (Nat.lt_of_succ_lt_succ h2)
end
theorem aKt (I : Inv X pins σ H s) : ∀ (x y : D) (A : Around) (v u : V) (a b : Value), Rep X.K H x v -> Rep X.K H y u -> RelV v a -> RelV u b -> A.units + dep x < cLine -> plain x = true -> plain y = true -> RcAt A s a b (eqD x y)
 | .non, y, A, v, u, a, b, ra, rb, va, vb, hu, px, py => by
  have zv := bU.mp ra; subst zv; have za : a = Value.none := va; subst za
  cases y with
  | dct _ _ _ => simp at py
  | ins _ _ _ => simp at py
  | exn _ _ _ => simp at py
  | non =>
   have zu := bU.mp rb; subst zu; have zb : b = Value.none := vb; subst zb
   have e : eqD (.non) (.non) = eqD _ _ := rfl
   unfold eqD
   exact RcAt.none_none
  | bl y =>
   have zu := bA.mp rb; subst zu; have zb : b = Value.bool y := vb; subst zb
   have e : eqD (.non) (.bl y) = eqD _ _ := rfl
   unfold eqD
   exact RcAt.none_bool y
  | int y =>
   have zu := aN.mp rb; subst zu; obtain ⟨tb, zb⟩ : ∃ t, b = Value.int y t := vb; subst zb
   have e : eqD (.non) (.int y) = eqD _ _ := rfl
   unfold eqD
   exact RcAt.none_int y tb
  | str y =>
   have zu := aR.mp rb; subst zu; obtain ⟨tb, zb⟩ : ∃ t, b = Value.str ⟨y.toArray⟩ t := vb; subst zb
   have e : eqD (.non) (.str y) = eqD _ _ := rfl
   unfold eqD
   exact RcAt.none_str _ tb
  | tup y =>
   obtain ⟨lb, wsb, zu, hqb, hrb⟩ := aY rb; subst zu; have zb : b = Value.ref lb := vb; subst zb; obtain ⟨itsb, rvb, plb, _⟩ := I.tuple hqb; have ilb : s.heap.IsTuple lb itsb.toArray := plb
   have e : eqD (.non) (.tup y) = eqD _ _ := rfl
   unfold eqD
   exact RcAt.none_tuple ilb (Nat.lt_of_le_of_lt (Nat.le_add_right _ _) hu)
  | lst y =>
   obtain ⟨lb, wsb, zu, hqb, hrb⟩ := bL.mp rb; subst zu; have zb : b = Value.ref lb := vb; subst zb; obtain ⟨itsb, rvb, plb, _⟩ := I.list hqb; have ilb := plb.isList
   have e : eqD (.non) (.lst y) = eqD _ _ := rfl
   unfold eqD
   exact RcAt.none_list ilb (Nat.lt_of_le_of_lt (Nat.le_add_right _ _) hu)
 | .bl x, y, A, v, u, a, b, ra, rb, va, vb, hu, px, py => by
  have zv := bA.mp ra; subst zv; have za : a = Value.bool x := va; subst za
  cases y with
  | dct _ _ _ => simp at py
  | ins _ _ _ => simp at py
  | exn _ _ _ => simp at py
  | non =>
   have zu := bU.mp rb; subst zu; have zb : b = Value.none := vb; subst zb
   have e : eqD (.bl x) (.non) = eqD _ _ := rfl
   unfold eqD
   exact RcAt.bool_none x
  | bl y =>
   have zu := bA.mp rb; subst zu; have zb : b = Value.bool y := vb; subst zb
   have e : eqD (.bl x) (.bl y) = eqD _ _ := rfl
   unfold eqD
   exact RcAt.bool_bool x y
  | int y =>
   have zu := aN.mp rb; subst zu; obtain ⟨tb, zb⟩ : ∃ t, b = Value.int y t := vb; subst zb
   have e : eqD (.bl x) (.int y) = eqD _ _ := rfl
   unfold eqD
   exact RcAt.bool_int x y tb
  | str y =>
   have zu := aR.mp rb; subst zu; obtain ⟨tb, zb⟩ : ∃ t, b = Value.str ⟨y.toArray⟩ t := vb; subst zb
   have e : eqD (.bl x) (.str y) = eqD _ _ := rfl
   unfold eqD
   exact RcAt.bool_str x _ tb
  | tup y =>
   obtain ⟨lb, wsb, zu, hqb, hrb⟩ := aY rb; subst zu; have zb : b = Value.ref lb := vb; subst zb; obtain ⟨itsb, rvb, plb, _⟩ := I.tuple hqb; have ilb : s.heap.IsTuple lb itsb.toArray := plb
   have e : eqD (.bl x) (.tup y) = eqD _ _ := rfl
   unfold eqD
   exact RcAt.bool_tuple x ilb (Nat.lt_of_le_of_lt (Nat.le_add_right _ _) hu)
  | lst y =>
   obtain ⟨lb, wsb, zu, hqb, hrb⟩ := bL.mp rb; subst zu; have zb : b = Value.ref lb := vb; subst zb; obtain ⟨itsb, rvb, plb, _⟩ := I.list hqb; have ilb := plb.isList
   have e : eqD (.bl x) (.lst y) = eqD _ _ := rfl
   unfold eqD
   exact RcAt.bool_list x ilb (Nat.lt_of_le_of_lt (Nat.le_add_right _ _) hu)
 | .int x, y, A, v, u, a, b, ra, rb, va, vb, hu, px, py => by
  have zv := aN.mp ra; subst zv; obtain ⟨ta, za⟩ : ∃ t, a = Value.int x t := va; subst za
  cases y with
  | dct _ _ _ => simp at py
  | ins _ _ _ => simp at py
  | exn _ _ _ => simp at py
  | non =>
   have zu := bU.mp rb; subst zu; have zb : b = Value.none := vb; subst zb
   have e : eqD (.int x) (.non) = eqD _ _ := rfl
   unfold eqD
   exact RcAt.int_none x ta
  | bl y =>
   have zu := bA.mp rb; subst zu; have zb : b = Value.bool y := vb; subst zb
   have e : eqD (.int x) (.bl y) = eqD _ _ := rfl
   unfold eqD
   exact RcAt.int_bool x ta y
  | int y =>
   have zu := aN.mp rb; subst zu; obtain ⟨tb, zb⟩ : ∃ t, b = Value.int y t := vb; subst zb
   have e : eqD (.int x) (.int y) = eqD _ _ := rfl
   unfold eqD
   exact RcAt.int_int x ta y tb
  | str y =>
   have zu := aR.mp rb; subst zu; obtain ⟨tb, zb⟩ : ∃ t, b = Value.str ⟨y.toArray⟩ t := vb; subst zb
   have e : eqD (.int x) (.str y) = eqD _ _ := rfl
   unfold eqD
   exact RcAt.int_str x ta _ tb
  | tup y =>
   obtain ⟨lb, wsb, zu, hqb, hrb⟩ := aY rb; subst zu; have zb : b = Value.ref lb := vb; subst zb; obtain ⟨itsb, rvb, plb, _⟩ := I.tuple hqb; have ilb : s.heap.IsTuple lb itsb.toArray := plb
   have e : eqD (.int x) (.tup y) = eqD _ _ := rfl
   unfold eqD
   exact RcAt.int_tuple x ta ilb (Nat.lt_of_le_of_lt (Nat.le_add_right _ _) hu)
  | lst y =>
   obtain ⟨lb, wsb, zu, hqb, hrb⟩ := bL.mp rb; subst zu; have zb : b = Value.ref lb := vb; subst zb; obtain ⟨itsb, rvb, plb, _⟩ := I.list hqb; have ilb := plb.isList
   have e : eqD (.int x) (.lst y) = eqD _ _ := rfl
   unfold eqD
   exact RcAt.int_list x ta ilb (Nat.lt_of_le_of_lt (Nat.le_add_right _ _) hu)
 | .str x, y, A, v, u, a, b, ra, rb, va, vb, hu, px, py => by
  have zv := aR.mp ra; subst zv; obtain ⟨ta, za⟩ : ∃ t, a = Value.str ⟨x.toArray⟩ t := va; subst za
  cases y with
  | dct _ _ _ => simp at py
  | ins _ _ _ => simp at py
  | exn _ _ _ => simp at py
  | non =>
   have zu := bU.mp rb; subst zu; have zb : b = Value.none := vb; subst zb
   have e : eqD (.str x) (.non) = eqD _ _ := rfl
   unfold eqD
   exact RcAt.str_none _ ta
  | bl y =>
   have zu := bA.mp rb; subst zu; have zb : b = Value.bool y := vb; subst zb
   have e : eqD (.str x) (.bl y) = eqD _ _ := rfl
   unfold eqD
   exact RcAt.str_bool _ ta y
  | int y =>
   have zu := aN.mp rb; subst zu; obtain ⟨tb, zb⟩ : ∃ t, b = Value.int y t := vb; subst zb
   have e : eqD (.str x) (.int y) = eqD _ _ := rfl
   unfold eqD
   exact RcAt.str_int _ ta y tb
  | str y =>
   have zu := aR.mp rb; subst zu; obtain ⟨tb, zb⟩ : ∃ t, b = Value.str ⟨y.toArray⟩ t := vb; subst zb
   have e : eqD (.str x) (.str y) = ((⟨x.toArray⟩ : Str) == ⟨y.toArray⟩) := by rw [<- str_beq]; unfold eqD; simp
   rw [e]
   exact RcAt.str_str _ ta _ tb
  | tup y =>
   obtain ⟨lb, wsb, zu, hqb, hrb⟩ := aY rb; subst zu; have zb : b = Value.ref lb := vb; subst zb; obtain ⟨itsb, rvb, plb, _⟩ := I.tuple hqb; have ilb : s.heap.IsTuple lb itsb.toArray := plb
   have e : eqD (.str x) (.tup y) = eqD _ _ := rfl
   unfold eqD
   exact RcAt.str_tuple _ ta ilb (Nat.lt_of_le_of_lt (Nat.le_add_right _ _) hu)
  | lst y =>
   obtain ⟨lb, wsb, zu, hqb, hrb⟩ := bL.mp rb; subst zu; have zb : b = Value.ref lb := vb; subst zb; obtain ⟨itsb, rvb, plb, _⟩ := I.list hqb; have ilb := plb.isList
   have e : eqD (.str x) (.lst y) = eqD _ _ := rfl
   unfold eqD
   exact RcAt.str_list _ ta ilb (Nat.lt_of_le_of_lt (Nat.le_add_right _ _) hu)
 | .tup x, y, A, v, u, a, b, ra, rb, va, vb, hu, px, py => by
  obtain ⟨la, wsa, zv, hqa, hra⟩ := aY ra; subst zv; have za : a = Value.ref la := va; subst za; obtain ⟨itsa, rva, pla, _⟩ := I.tuple hqa; have ila : s.heap.IsTuple la itsa.toArray := pla
  cases y with
  | dct _ _ _ => simp at py
  | ins _ _ _ => simp at py
  | exn _ _ _ => simp at py
  | non =>
   have zu := bU.mp rb; subst zu; have zb : b = Value.none := vb; subst zb
   have e : eqD (.tup x) (.non) = eqD _ _ := rfl
   unfold eqD
   exact RcAt.tuple_none ila (Nat.lt_of_le_of_lt (Nat.le_add_right _ _) hu)
  | bl y =>
   have zu := bA.mp rb; subst zu; have zb : b = Value.bool y := vb; subst zb
   have e : eqD (.tup x) (.bl y) = eqD _ _ := rfl
   unfold eqD
   exact RcAt.tuple_bool y ila (Nat.lt_of_le_of_lt (Nat.le_add_right _ _) hu)
  | int y =>
   have zu := aN.mp rb; subst zu; obtain ⟨tb, zb⟩ : ∃ t, b = Value.int y t := vb; subst zb
   have e : eqD (.tup x) (.int y) = eqD _ _ := rfl
   unfold eqD
   exact RcAt.tuple_int y tb ila (Nat.lt_of_le_of_lt (Nat.le_add_right _ _) hu)
  | str y =>
   have zu := aR.mp rb; subst zu; obtain ⟨tb, zb⟩ : ∃ t, b = Value.str ⟨y.toArray⟩ t := vb; subst zb
   have e : eqD (.tup x) (.str y) = eqD _ _ := rfl
   unfold eqD
   exact RcAt.tuple_str _ tb ila (Nat.lt_of_le_of_lt (Nat.le_add_right _ _) hu)
  | tup y =>
   obtain ⟨lb, wsb, zu, hqb, hrb⟩ := aY rb; subst zu; have zb : b = Value.ref lb := vb; subst zb; obtain ⟨itsb, rvb, plb, _⟩ := I.tuple hqb; have ilb : s.heap.IsTuple lb itsb.toArray := plb
   have n1 : itsa.length = x.length := by rw [<- rva.length, hra.length]
   have n2 : itsb.length = y.length := by rw [<- rvb.length, hrb.length]
   have e : eqD (.tup x) (.tup y) = dZ x y := by conv => lhs; unfold eqD
   have hd : dep (.tup x) = dD x + 1 := by conv => lhs; unfold dep
   rw [hd] at hu
   have hin : A.in1.units + dD x < cLine := by show A.units + 1 + dD x < cLine; omega
   rw [e]
   have e3 : dZ x y = ((List.range (min itsa.toArray.size itsb.toArray.size)).all (pairE x y) && itsa.toArray.size == itsb.toArray.size) := by rw [<- jX, List.size_toArray, List.size_toArray, n1, n2]
   rw [e3]
   refine  (RcAt.tuples ila ilb (by omega) fun j j1 j2 => ?_)
   have := jH I x y A.in1 wsa wsb itsa itsb hra hrb rva rvb hin (by simpa using px) (by simpa using py) j (by simpa using j1) (by simpa using j2)
   simpa using this
  | lst y =>
   obtain ⟨lb, wsb, zu, hqb, hrb⟩ := bL.mp rb; subst zu; have zb : b = Value.ref lb := vb; subst zb; obtain ⟨itsb, rvb, plb, _⟩ := I.list hqb; have ilb := plb.isList
   have e : eqD (.tup x) (.lst y) = eqD _ _ := rfl
   unfold eqD
   exact RcAt.tuple_list ila ilb (Nat.lt_of_le_of_lt (Nat.le_add_right _ _) hu)
 | .lst x, y, A, v, u, a, b, ra, rb, va, vb, hu, px, py => by
  obtain ⟨la, wsa, zv, hqa, hra⟩ := bL.mp ra; subst zv; have za : a = Value.ref la := va; subst za; obtain ⟨itsa, rva, pla, _⟩ := I.list hqa; have ila := pla.isList
  cases y with
  | dct _ _ _ => simp at py
  | ins _ _ _ => simp at py
  | exn _ _ _ => simp at py
  | non =>
   have zu := bU.mp rb; subst zu; have zb : b = Value.none := vb; subst zb
   have e : eqD (.lst x) (.non) = eqD _ _ := rfl
   unfold eqD
   exact RcAt.list_none ila (Nat.lt_of_le_of_lt (Nat.le_add_right _ _) hu)
  | bl y =>
   have zu := bA.mp rb; subst zu; have zb : b = Value.bool y := vb; subst zb
   have e : eqD (.lst x) (.bl y) = eqD _ _ := rfl
   unfold eqD
   exact RcAt.list_bool y ila (Nat.lt_of_le_of_lt (Nat.le_add_right _ _) hu)
  | int y =>
   have zu := aN.mp rb; subst zu; obtain ⟨tb, zb⟩ : ∃ t, b = Value.int y t := vb; subst zb
   have e : eqD (.lst x) (.int y) = eqD _ _ := rfl
   unfold eqD
   exact RcAt.list_int y tb ila (Nat.lt_of_le_of_lt (Nat.le_add_right _ _) hu)
  | str y =>
   have zu := aR.mp rb; subst zu; obtain ⟨tb, zb⟩ : ∃ t, b = Value.str ⟨y.toArray⟩ t := vb; subst zb
   have e : eqD (.lst x) (.str y) = eqD _ _ := rfl
   unfold eqD
   exact RcAt.list_str _ tb ila (Nat.lt_of_le_of_lt (Nat.le_add_right _ _) hu)
  | tup y =>
   obtain ⟨lb, wsb, zu, hqb, hrb⟩ := aY rb; subst zu; have zb : b = Value.ref lb := vb; subst zb; obtain ⟨itsb, rvb, plb, _⟩ := I.tuple hqb; have ilb : s.heap.IsTuple lb itsb.toArray := plb
   have e : eqD (.lst x) (.tup y) = eqD _ _ := rfl
   unfold eqD
   exact RcAt.list_tuple ila ilb (Nat.lt_of_le_of_lt (Nat.le_add_right _ _) hu)
  | lst y =>
   obtain ⟨lb, wsb, zu, hqb, hrb⟩ := bL.mp rb; subst zu; have zb : b = Value.ref lb := vb; subst zb; obtain ⟨itsb, rvb, plb, _⟩ := I.list hqb; have ilb := plb.isList
   have n1 : itsa.length = x.length := by rw [<- rva.length, hra.length]
   have n2 : itsb.length = y.length := by rw [<- rvb.length, hrb.length]
   have e : eqD (.lst x) (.lst y) = dZ x y := by conv => lhs; unfold eqD
   have hd : dep (.lst x) = dD x + 1 := by conv => lhs; unfold dep
   rw [hd] at hu
   have hin : A.in1.units + dD x < cLine := by show A.units + 1 + dD x < cLine; omega
   rw [e]
   by_cases hsz : itsa.length = itsb.length
   ·have e3 : dZ x y = (List.range itsa.toArray.size).all (pairE x y) := by rw [<- jX, List.size_toArray, n1]; simp [show x.length = y.length by omega]
    rw [e3]
    refine  (RcAt.lists ila ilb (by simpa using hsz) (by omega) fun j j1 j2 => ?_)
    have := jH I x y A.in1 wsa wsb itsa itsb hra hrb rva rvb hin (by simpa using px) (by simpa using py) j (by simpa using j1) (by simpa using j2)
    simpa using this
   ·rw [rP (by omega)]
    exact  (RcAt.lists_lengths ila ilb (by simpa using hsz) (by omega))
 | .dct _ _ _, y, A, v, u, a, b, ra, rb, va, vb, hu, px, py => by simp at px
 | .ins _ _ _, y, A, v, u, a, b, ra, rb, va, vb, hu, px, py => by simp at px
 | .exn _ _ _, y, A, v, u, a, b, ra, rb, va, vb, hu, px, py => by simp at px
theorem aKu (I : Inv X pins σ H s) : ∀ (x y : D) (A : Around) (v u : V) (a b : Value), Rep X.K H x v -> Rep X.K H y u -> RelV v a -> RelV u b -> A.units + dep x < cLine -> plain x = true -> plain y = true -> RcNeAt A s a b (!eqD x y)
 | .non, y, A, v, u, a, b, ra, rb, va, vb, hu, px, py => by
  have zv := bU.mp ra; subst zv; have za : a = Value.none := va; subst za
  cases y with
  | dct _ _ _ => simp at py
  | ins _ _ _ => simp at py
  | exn _ _ _ => simp at py
  | non =>
   have zu := bU.mp rb; subst zu; have zb : b = Value.none := vb; subst zb
   have e : eqD (.non) (.non) = eqD _ _ := rfl
   unfold eqD
   exact RcNeAt.none_none
  | bl y =>
   have zu := bA.mp rb; subst zu; have zb : b = Value.bool y := vb; subst zb
   have e : eqD (.non) (.bl y) = eqD _ _ := rfl
   unfold eqD
   exact RcNeAt.none_bool y
  | int y =>
   have zu := aN.mp rb; subst zu; obtain ⟨tb, zb⟩ : ∃ t, b = Value.int y t := vb; subst zb
   have e : eqD (.non) (.int y) = eqD _ _ := rfl
   unfold eqD
   exact RcNeAt.none_int y tb
  | str y =>
   have zu := aR.mp rb; subst zu; obtain ⟨tb, zb⟩ : ∃ t, b = Value.str ⟨y.toArray⟩ t := vb; subst zb
   have e : eqD (.non) (.str y) = eqD _ _ := rfl
   unfold eqD
   exact RcNeAt.none_str _ tb
  | tup y =>
   obtain ⟨lb, wsb, zu, hqb, hrb⟩ := aY rb; subst zu; have zb : b = Value.ref lb := vb; subst zb; obtain ⟨itsb, rvb, plb, _⟩ := I.tuple hqb; have ilb : s.heap.IsTuple lb itsb.toArray := plb
   have e : eqD (.non) (.tup y) = eqD _ _ := rfl
   unfold eqD
   exact RcNeAt.none_tuple ilb (Nat.lt_of_le_of_lt (Nat.le_add_right _ _) hu)
  | lst y =>
   obtain ⟨lb, wsb, zu, hqb, hrb⟩ := bL.mp rb; subst zu; have zb : b = Value.ref lb := vb; subst zb; obtain ⟨itsb, rvb, plb, _⟩ := I.list hqb; have ilb := plb.isList
   have e : eqD (.non) (.lst y) = eqD _ _ := rfl
   unfold eqD
   exact RcNeAt.none_list ilb (Nat.lt_of_le_of_lt (Nat.le_add_right _ _) hu)
 | .bl x, y, A, v, u, a, b, ra, rb, va, vb, hu, px, py => by
  have zv := bA.mp ra; subst zv; have za : a = Value.bool x := va; subst za
  cases y with
  | dct _ _ _ => simp at py
  | ins _ _ _ => simp at py
  | exn _ _ _ => simp at py
  | non =>
   have zu := bU.mp rb; subst zu; have zb : b = Value.none := vb; subst zb
   have e : eqD (.bl x) (.non) = eqD _ _ := rfl
   unfold eqD
   exact RcNeAt.bool_none x
  | bl y =>
   have zu := bA.mp rb; subst zu; have zb : b = Value.bool y := vb; subst zb
   have e : eqD (.bl x) (.bl y) = eqD _ _ := rfl
   unfold eqD
   exact RcNeAt.bool_bool x y
  | int y =>
   have zu := aN.mp rb; subst zu; obtain ⟨tb, zb⟩ : ∃ t, b = Value.int y t := vb; subst zb
   have e : eqD (.bl x) (.int y) = eqD _ _ := rfl
   unfold eqD
   exact RcNeAt.bool_int x y tb
  | str y =>
   have zu := aR.mp rb; subst zu; obtain ⟨tb, zb⟩ : ∃ t, b = Value.str ⟨y.toArray⟩ t := vb; subst zb
   have e : eqD (.bl x) (.str y) = eqD _ _ := rfl
   unfold eqD
   exact RcNeAt.bool_str x _ tb
  | tup y =>
   obtain ⟨lb, wsb, zu, hqb, hrb⟩ := aY rb; subst zu; have zb : b = Value.ref lb := vb; subst zb; obtain ⟨itsb, rvb, plb, _⟩ := I.tuple hqb; have ilb : s.heap.IsTuple lb itsb.toArray := plb
   have e : eqD (.bl x) (.tup y) = eqD _ _ := rfl
   unfold eqD
   exact RcNeAt.bool_tuple x ilb (Nat.lt_of_le_of_lt (Nat.le_add_right _ _) hu)
  | lst y =>
   obtain ⟨lb, wsb, zu, hqb, hrb⟩ := bL.mp rb; subst zu; have zb : b = Value.ref lb := vb; subst zb; obtain ⟨itsb, rvb, plb, _⟩ := I.list hqb; have ilb := plb.isList
   have e : eqD (.bl x) (.lst y) = eqD _ _ := rfl
   unfold eqD
   exact RcNeAt.bool_list x ilb (Nat.lt_of_le_of_lt (Nat.le_add_right _ _) hu)
 | .int x, y, A, v, u, a, b, ra, rb, va, vb, hu, px, py => by
  have zv := aN.mp ra; subst zv; obtain ⟨ta, za⟩ : ∃ t, a = Value.int x t := va; subst za
  cases y with
  | dct _ _ _ => simp at py
  | ins _ _ _ => simp at py
  | exn _ _ _ => simp at py
  | non =>
   have zu := bU.mp rb; subst zu; have zb : b = Value.none := vb; subst zb
   have e : eqD (.int x) (.non) = eqD _ _ := rfl
   unfold eqD
   exact RcNeAt.int_none x ta
  | bl y =>
   have zu := bA.mp rb; subst zu; have zb : b = Value.bool y := vb; subst zb
   have e : eqD (.int x) (.bl y) = eqD _ _ := rfl
   unfold eqD
   exact RcNeAt.int_bool x ta y
  | int y =>
   have zu := aN.mp rb; subst zu; obtain ⟨tb, zb⟩ : ∃ t, b = Value.int y t := vb; subst zb
   have e : eqD (.int x) (.int y) = eqD _ _ := rfl
   unfold eqD
   exact RcNeAt.int_int x ta y tb
  | str y =>
   have zu := aR.mp rb; subst zu; obtain ⟨tb, zb⟩ : ∃ t, b = Value.str ⟨y.toArray⟩ t := vb; subst zb
   have e : eqD (.int x) (.str y) = eqD _ _ := rfl
   unfold eqD
   exact RcNeAt.int_str x ta _ tb
  | tup y =>
   obtain ⟨lb, wsb, zu, hqb, hrb⟩ := aY rb; subst zu; have zb : b = Value.ref lb := vb; subst zb; obtain ⟨itsb, rvb, plb, _⟩ := I.tuple hqb; have ilb : s.heap.IsTuple lb itsb.toArray := plb
   have e : eqD (.int x) (.tup y) = eqD _ _ := rfl
   unfold eqD
   exact RcNeAt.int_tuple x ta ilb (Nat.lt_of_le_of_lt (Nat.le_add_right _ _) hu)
  | lst y =>
   obtain ⟨lb, wsb, zu, hqb, hrb⟩ := bL.mp rb; subst zu; have zb : b = Value.ref lb := vb; subst zb; obtain ⟨itsb, rvb, plb, _⟩ := I.list hqb; have ilb := plb.isList
   have e : eqD (.int x) (.lst y) = eqD _ _ := rfl
   unfold eqD
   exact RcNeAt.int_list x ta ilb (Nat.lt_of_le_of_lt (Nat.le_add_right _ _) hu)
 | .str x, y, A, v, u, a, b, ra, rb, va, vb, hu, px, py => by
  have zv := aR.mp ra; subst zv; obtain ⟨ta, za⟩ : ∃ t, a = Value.str ⟨x.toArray⟩ t := va; subst za
  cases y with
  | dct _ _ _ => simp at py
  | ins _ _ _ => simp at py
  | exn _ _ _ => simp at py
  | non =>
   have zu := bU.mp rb; subst zu; have zb : b = Value.none := vb; subst zb
   have e : eqD (.str x) (.non) = eqD _ _ := rfl
   unfold eqD
   exact RcNeAt.str_none _ ta
  | bl y =>
   have zu := bA.mp rb; subst zu; have zb : b = Value.bool y := vb; subst zb
   have e : eqD (.str x) (.bl y) = eqD _ _ := rfl
   unfold eqD
   exact RcNeAt.str_bool _ ta y
  | int y =>
   have zu := aN.mp rb; subst zu; obtain ⟨tb, zb⟩ : ∃ t, b = Value.int y t := vb; subst zb
   have e : eqD (.str x) (.int y) = eqD _ _ := rfl
   unfold eqD
   exact RcNeAt.str_int _ ta y tb
  | str y =>
   have zu := aR.mp rb; subst zu; obtain ⟨tb, zb⟩ : ∃ t, b = Value.str ⟨y.toArray⟩ t := vb; subst zb
   have e : eqD (.str x) (.str y) = ((⟨x.toArray⟩ : Str) == ⟨y.toArray⟩) := by rw [<- str_beq]; unfold eqD; simp
   rw [e]
   exact RcNeAt.str_str _ ta _ tb
  | tup y =>
   obtain ⟨lb, wsb, zu, hqb, hrb⟩ := aY rb; subst zu; have zb : b = Value.ref lb := vb; subst zb; obtain ⟨itsb, rvb, plb, _⟩ := I.tuple hqb; have ilb : s.heap.IsTuple lb itsb.toArray := plb
   have e : eqD (.str x) (.tup y) = eqD _ _ := rfl
   unfold eqD
   exact RcNeAt.str_tuple _ ta ilb (Nat.lt_of_le_of_lt (Nat.le_add_right _ _) hu)
  | lst y =>
   obtain ⟨lb, wsb, zu, hqb, hrb⟩ := bL.mp rb; subst zu; have zb : b = Value.ref lb := vb; subst zb; obtain ⟨itsb, rvb, plb, _⟩ := I.list hqb; have ilb := plb.isList
   have e : eqD (.str x) (.lst y) = eqD _ _ := rfl
   unfold eqD
   exact RcNeAt.str_list _ ta ilb (Nat.lt_of_le_of_lt (Nat.le_add_right _ _) hu)
 | .tup x, y, A, v, u, a, b, ra, rb, va, vb, hu, px, py => by
  obtain ⟨la, wsa, zv, hqa, hra⟩ := aY ra; subst zv; have za : a = Value.ref la := va; subst za; obtain ⟨itsa, rva, pla, _⟩ := I.tuple hqa; have ila : s.heap.IsTuple la itsa.toArray := pla
  cases y with
  | dct _ _ _ => simp at py
  | ins _ _ _ => simp at py
  | exn _ _ _ => simp at py
  | non =>
   have zu := bU.mp rb; subst zu; have zb : b = Value.none := vb; subst zb
   have e : eqD (.tup x) (.non) = eqD _ _ := rfl
   unfold eqD
   exact RcNeAt.tuple_none ila (Nat.lt_of_le_of_lt (Nat.le_add_right _ _) hu)
  | bl y =>
   have zu := bA.mp rb; subst zu; have zb : b = Value.bool y := vb; subst zb
   have e : eqD (.tup x) (.bl y) = eqD _ _ := rfl
   unfold eqD
   exact RcNeAt.tuple_bool y ila (Nat.lt_of_le_of_lt (Nat.le_add_right _ _) hu)
  | int y =>
   have zu := aN.mp rb; subst zu; obtain ⟨tb, zb⟩ : ∃ t, b = Value.int y t := vb; subst zb
   have e : eqD (.tup x) (.int y) = eqD _ _ := rfl
   unfold eqD
   exact RcNeAt.tuple_int y tb ila (Nat.lt_of_le_of_lt (Nat.le_add_right _ _) hu)
  | str y =>
   have zu := aR.mp rb; subst zu; obtain ⟨tb, zb⟩ : ∃ t, b = Value.str ⟨y.toArray⟩ t := vb; subst zb
   have e : eqD (.tup x) (.str y) = eqD _ _ := rfl
   unfold eqD
   exact RcNeAt.tuple_str _ tb ila (Nat.lt_of_le_of_lt (Nat.le_add_right _ _) hu)
  | tup y =>
   obtain ⟨lb, wsb, zu, hqb, hrb⟩ := aY rb; subst zu; have zb : b = Value.ref lb := vb; subst zb; obtain ⟨itsb, rvb, plb, _⟩ := I.tuple hqb; have ilb : s.heap.IsTuple lb itsb.toArray := plb
   have n1 : itsa.length = x.length := by rw [<- rva.length, hra.length]
   have n2 : itsb.length = y.length := by rw [<- rvb.length, hrb.length]
   have e : eqD (.tup x) (.tup y) = dZ x y := by conv => lhs; unfold eqD
   have hd : dep (.tup x) = dD x + 1 := by conv => lhs; unfold dep
   rw [hd] at hu
   have hin : A.in1.units + dD x < cLine := by show A.units + 1 + dD x < cLine; omega
   rw [e]
   have e3 : dZ x y = ((List.range (min itsa.toArray.size itsb.toArray.size)).all (pairE x y) && itsa.toArray.size == itsb.toArray.size) := by rw [<- jX, List.size_toArray, List.size_toArray, n1, n2]
   rw [e3]
   refine  (RcNeAt.tuples ila ilb (by omega) fun j j1 j2 => ?_)
   have := jH I x y A.in1 wsa wsb itsa itsb hra hrb rva rvb hin (by simpa using px) (by simpa using py) j (by simpa using j1) (by simpa using j2)
   simpa using this
  | lst y =>
   obtain ⟨lb, wsb, zu, hqb, hrb⟩ := bL.mp rb; subst zu; have zb : b = Value.ref lb := vb; subst zb; obtain ⟨itsb, rvb, plb, _⟩ := I.list hqb; have ilb := plb.isList
   have e : eqD (.tup x) (.lst y) = eqD _ _ := rfl
   unfold eqD
   exact RcNeAt.tuple_list ila ilb (Nat.lt_of_le_of_lt (Nat.le_add_right _ _) hu)
 | .lst x, y, A, v, u, a, b, ra, rb, va, vb, hu, px, py => by
  obtain ⟨la, wsa, zv, hqa, hra⟩ := bL.mp ra; subst zv; have za : a = Value.ref la := va; subst za; obtain ⟨itsa, rva, pla, _⟩ := I.list hqa; have ila := pla.isList
  cases y with
  | dct _ _ _ => simp at py
  | ins _ _ _ => simp at py
  | exn _ _ _ => simp at py
  | non =>
   have zu := bU.mp rb; subst zu; have zb : b = Value.none := vb; subst zb
   have e : eqD (.lst x) (.non) = eqD _ _ := rfl
   unfold eqD
   exact RcNeAt.list_none ila (Nat.lt_of_le_of_lt (Nat.le_add_right _ _) hu)
  | bl y =>
   have zu := bA.mp rb; subst zu; have zb : b = Value.bool y := vb; subst zb
   have e : eqD (.lst x) (.bl y) = eqD _ _ := rfl
   unfold eqD
   exact RcNeAt.list_bool y ila (Nat.lt_of_le_of_lt (Nat.le_add_right _ _) hu)
  | int y =>
   have zu := aN.mp rb; subst zu; obtain ⟨tb, zb⟩ : ∃ t, b = Value.int y t := vb; subst zb
   have e : eqD (.lst x) (.int y) = eqD _ _ := rfl
   unfold eqD
   exact RcNeAt.list_int y tb ila (Nat.lt_of_le_of_lt (Nat.le_add_right _ _) hu)
  | str y =>
   have zu := aR.mp rb; subst zu; obtain ⟨tb, zb⟩ : ∃ t, b = Value.str ⟨y.toArray⟩ t := vb; subst zb
   have e : eqD (.lst x) (.str y) = eqD _ _ := rfl
   unfold eqD
   exact RcNeAt.list_str _ tb ila (Nat.lt_of_le_of_lt (Nat.le_add_right _ _) hu)
  | tup y =>
   obtain ⟨lb, wsb, zu, hqb, hrb⟩ := aY rb; subst zu; have zb : b = Value.ref lb := vb; subst zb; obtain ⟨itsb, rvb, plb, _⟩ := I.tuple hqb; have ilb : s.heap.IsTuple lb itsb.toArray := plb
   have e : eqD (.lst x) (.tup y) = eqD _ _ := rfl
   unfold eqD
   exact RcNeAt.list_tuple ila ilb (Nat.lt_of_le_of_lt (Nat.le_add_right _ _) hu)
  | lst y =>
   obtain ⟨lb, wsb, zu, hqb, hrb⟩ := bL.mp rb; subst zu; have zb : b = Value.ref lb := vb; subst zb; obtain ⟨itsb, rvb, plb, _⟩ := I.list hqb; have ilb := plb.isList
   have n1 : itsa.length = x.length := by rw [<- rva.length, hra.length]
   have n2 : itsb.length = y.length := by rw [<- rvb.length, hrb.length]
   have e : eqD (.lst x) (.lst y) = dZ x y := by conv => lhs; unfold eqD
   have hd : dep (.lst x) = dD x + 1 := by conv => lhs; unfold dep
   rw [hd] at hu
   have hin : A.in1.units + dD x < cLine := by show A.units + 1 + dD x < cLine; omega
   rw [e]
   by_cases hsz : itsa.length = itsb.length
   ·have e3 : dZ x y = (List.range itsa.toArray.size).all (pairE x y) := by rw [<- jX, List.size_toArray, n1]; simp [show x.length = y.length by omega]
    rw [e3]
    refine  (RcNeAt.lists ila ilb (by simpa using hsz) (by omega) fun j j1 j2 => ?_)
    have := jH I x y A.in1 wsa wsb itsa itsb hra hrb rva rvb hin (by simpa using px) (by simpa using py) j (by simpa using j1) (by simpa using j2)
    simpa using this
   ·rw [rP (by omega)]
    exact  (RcNeAt.lists_lengths ila ilb (by simpa using hsz) (by omega))
 | .dct _ _ _, y, A, v, u, a, b, ra, rb, va, vb, hu, px, py => by simp at px
 | .ins _ _ _, y, A, v, u, a, b, ra, rb, va, vb, hu, px, py => by simp at px
 | .exn _ _ _, y, A, v, u, a, b, ra, rb, va, vb, hu, px, py => by simp at px
end
end Pu
namespace Pu
open PySem PySem.Spec PyProof.Rows L2
section
variable {X : Cx} {B : List Addr} {a b e : Expr} {f g : Ex} {pos : Pos}
theorem iY.rep {K : PySem.W.Frag} {A : List Addr} {H : Hp} {d : D} {v : V} (h : iY K A H d v) : Rep K H d v := by
 rcases h with h | ⟨a, k, o, ds, vs, e1, e2, e3, ko, q⟩
 ·exact h.mono (aX _ _)
 ·subst e1 e2
  exact ko.rep e3 (q.mono (aX _ _))
def aNc (K : PySem.W.Frag) (neg : Bool) : R2 := fun v u H Q => ∃ x y, Rep K H x v /\ Rep K H y u /\ (dep x <= 64 /\ plain x = true /\ plain y = true) /\ Q (.bl (if neg then !eqD x y else eqD x y)) H
theorem mV (hu : X.A.units + 64 < cLine) : OpR X (compareOp .Eq) (aNc X.K false) := by
 intro pins s σ H v u a b Q I ra rb h
 obtain ⟨x, y, rx, ry, hd, q⟩ := h
 exact aKt I x y X.A v u a b rx ry ra rb (by omega) hd.2.1 hd.2.2 X.prog X.w X.xe _ ⟨.bl _, H, I, rfl, q⟩
theorem mW (hu : X.A.units + 64 < cLine) : OpR X (compareOp .NotEq) (aNc X.K true) := by
 intro pins s σ H v u a b Q I ra rb h
 obtain ⟨x, y, rx, ry, hd, q⟩ := h
 exact aKu I x y X.A v u a b rx ry ra rb (by omega) hd.2.1 hd.2.2 X.prog X.w X.xe _ ⟨.bl _, H, I, rfl, q⟩
theorem mX {K : PySem.W.Frag} : qI K (aNc K false) dEq := by
 intro A H x y d v u Q w rx ry e q
 obtain ⟨c, e⟩ := aJ e
 cases e
 exact ⟨x, y, rx.rep, ry.rep, c, q _ H (aP.refl _) (bA.mpr rfl)⟩
theorem mY {K : PySem.W.Frag} : qI K (aNc K true) dNe := by
 intro A H x y d v u Q w rx ry e q
 obtain ⟨c, e⟩ := aJ e
 cases e
 exact ⟨x, y, rx.rep, ry.rep, c, q _ H (aP.refl _) (bA.mpr rfl)⟩
def tyD : D -> String
 | .non => "NoneType"
 | .bl _ => "bool"
 | .int _ => "int"
 | .str _ => "str"
 | .tup _ => "tuple"
 | .lst _ => "list"
 | .dct _ _ _ => "dict"
 | .ins _ _ _ => ""
 | .exn _ _ _ => ""
structure IsT (T : String) (p : D -> Bool) : Prop where
 boot : bootBuiltins T = some (.type T)
 ans : ∀ (K : PySem.W.Frag) (d : D), xK d = true -> PySem.W.kitOne K (.type (tyD d)) (.type T) = some (p d)
theorem aKv {T : String} {p : D -> Bool} (h : IsT T p) : jV X (.builtin "isinstance") (fun xs H Q => ∃ v d, xs = [v, .ty T] /\ xK d = true /\ Rep X.K H d v /\ Q (.bl (p d)) H) := by
 intro pins s σ H xs us Q I r q
 obtain ⟨v, d, rfl, hbl, rd, q⟩ := q
 obtain ⟨u, u2, rfl, ru, ru2⟩ := r.two
 have e2 : u2 = Value.type T := ru2
 subst e2
 have fin : ∀ tk, EP X pins σ Q (.bool (p d)) { s with toks := tk } := fun tk => ⟨.bl (p d), H, I.tok tk, rfl, q⟩
 have e := h.ans X.K d hbl
 cases d with
 | non => have z := bU.mp rd; subst z; have z : u = Value.none := ru; subst z; exact PySem.W.kia_one PySem.W.kitx_none I.kIn True.intro e (fun z => nomatch z) fin
 | bl x => have z := bA.mp rd; subst z; have z : u = Value.bool x := ru; subst z; exact PySem.W.kia_one PySem.W.kitx_bool I.kIn True.intro e (fun z => nomatch z) fin
 | int x => have z := aN.mp rd; subst z; obtain ⟨t, z⟩ : ∃ t, u = Value.int x t := ru; subst z; exact PySem.W.kia_one PySem.W.kitx_int I.kIn True.intro e (fun z => nomatch z) fin
 | str x => have z := aR.mp rd; subst z; obtain ⟨t, z⟩ : ∃ t, u = Value.str ⟨x.toArray⟩ t := ru; subst z; exact PySem.W.kia_one PySem.W.kitx_str I.kIn True.intro e (fun z => nomatch z) fin
 | tup x =>
  obtain ⟨l, vs, z, hq, _⟩ := aY rd; subst z
  have z : u = Value.ref l := ru; subst z
  obtain ⟨its, _, ⟨o, h1, h2, _⟩, _⟩ := I.tuple hq
  exact PySem.W.kia_one PySem.W.kitx_tuple I.kIn ⟨o, h1, h2⟩ e (fun z => nomatch z) fin
 | lst x =>
  obtain ⟨l, vs, z, hq, _⟩ := bL.mp rd; subst z
  have z : u = Value.ref l := ru; subst z
  obtain ⟨its, _, ⟨o, n, h1, h2, _⟩, _⟩ := I.list hq
  exact PySem.W.kia_one PySem.W.kitx_list I.kIn ⟨o, h1, h2⟩ e (fun z => nomatch z) fin
 | dct t ks x =>
  obtain ⟨l, vs, z, hq, _⟩ := tL.mp rd; subst z
  have z : u = Value.ref l := ru; subst z
  have hd : ∃ o, s.heap.get? l = some o /\ o.ExactDict := by
   rcases hq with ⟨_, kvs, hq, _⟩ | ⟨_, kvs, hq, _⟩
   ·obtain ⟨_, _, vs', _, m⟩ : kvs.length <= sizeLine /\ (l == sysModules) = false /\ ∃ vs, KV kvs vs /\ s.heap.DictOf (dO X.prog X.w) l vs := I.hok l _ hq
    obtain ⟨o, es, n, h1, h2, _⟩ := m
    exact ⟨o, h1, h2⟩
   ·obtain ⟨_, _, xs, _, o, es, ep, h1, h2, _⟩ := I.hok l _ hq
    exact ⟨o, h1, h2⟩
  obtain ⟨o, h1, h2⟩ := hd
  exact PySem.W.kia_one PySem.W.kitx_dict I.kIn ⟨o, h1, h2.1⟩ e (fun z => nomatch z) fin
 | ins _ _ _ => exact nomatch hbl
 | exn _ _ _ => exact nomatch hbl
theorem jY {T : Str} {S : String} {p : D -> Bool} {p0 p1 : Pos} (hT : IsT S p) (hm : X.mg "isinstance" = none) (hmT : X.mg T = none) (ha : PE X a (tP X.K B f)) (hST : bootBuiltins T = some (.type S) := by first | rfl | exact hT.boot) (hg : Gl X "isinstance" := by rfl) (hgT : Gl X T := by rfl) (hnT : T ≠ "__name__" := by decide) (hdT : (T == ("__debug__" : Str)) = false := by decide)
  (hs : starEach [a, .Name T p1] X.env = (false, eval a X.env) :: starEach [.Name T p1] X.env := by rfl) (hs2 : starEach [.Name T p1] X.env = (false, eval (.Name T p1) X.env) :: starEach [] X.env := by rfl) :
  PE X (.Call (.Name "isinstance" p0) [a, .Name T p1] [] pos) (tI X.K B (eB p f)) := by
 have hTy : PE X (.Name T p1) (tC (.ty S)) := aLn hgT hmT hST rfl hnT hdT
 refine cH (mZ (aKv hT) hg hm boot_isinstance (cW ha (cW hTy fK hs2) hs) (he := hs)) ?_
 rintro σ H Q ⟨A, st, d, rs, hd, q⟩
 obtain ⟨x, hx, h2⟩ := R.ok_of hd
 obtain ⟨hbl, h2⟩ := aJ h2
 cases h2
 exact ⟨A, st, x, rs, hx, fun v H1 s1 r1 => ⟨v, x, rfl, hbl, r1.rep, q _ H1 s1 (bA.mpr rfl)⟩⟩
theorem ty_str : IsT "str" aPv := ⟨rfl, fun K d hb => by cases d <;> first | (cases hb; done) | kernel_rfl⟩
theorem ty_bool : IsT "bool" aPw := ⟨rfl, fun K d hb => by cases d <;> first | (cases hb; done) | kernel_rfl⟩
theorem ty_int : IsT "int" isIn := ⟨rfl, fun K d hb => by cases d <;> first | (cases hb; done) | kernel_rfl⟩
theorem ty_tuple : IsT "tuple" aJa := ⟨rfl, fun K d hb => by cases d <;> first | (cases hb; done) | kernel_rfl⟩
theorem ty_list : IsT "list" aCr := ⟨rfl, fun K d hb => by cases d <;> first | (cases hb; done) | kernel_rfl⟩
end
end Pu
namespace Pu
open PySem PySem.Spec PyProof.Rows L2 PySem.SeqAt PySem.StrLaws
theorem aF3 (x y : List Nat) (i : Nat) : Builtin.Str.subAt ⟨x.toArray⟩ ⟨y.toArray⟩ i = ((x.drop i).take y.length == y) := by
 rw [subAt_eq]
 simp [Str.length]
theorem aDi (s sub : Str) (hi : Nat) : ∀ (l : List Nat) (st : Array Nat × Nat), 1 <= st.1.size -> (forIn l st (occBody s sub hi 1)).run.fst = st.1
 | [], st, h => rfl
 | a :: l, st, h => by
  rw [List.forIn_cons]
  unfold occBody
  rw [if_neg (fun z => by have := z.1.1.1; omega)]
  exact aDi s sub hi l (st.1, st.2) h
theorem aDj (s sub : Str) (hi : Nat) : ∀ (l : List Nat) (free : Nat), (∀ i ∈ l, free <= i) ->
  (forIn l ((#[] : Array Nat), free) (occBody s sub hi 1)).run.fst.toList = (l.find? fun i => decide (i + sub.length <= hi) && Builtin.Str.subAt s sub i).toList
 | [], free, _ => rfl
 | a :: l, free, hf => by
  rw [List.forIn_cons]
  have ha : free <= a := hf a List.mem_cons_self
  by_cases hc : a + sub.length <= hi /\ Builtin.Str.subAt s sub a = true
  ·have e : (decide (a + sub.length <= hi) && Builtin.Str.subAt s sub a) = true := by rw [hc.2, decide_eq_true hc.1]; rfl
   rw [List.find?_cons_of_pos (p := fun i => decide (i + sub.length <= hi) && Builtin.Str.subAt s sub i) e]
   have e2 : occBody s sub hi 1 a ((#[] : Array Nat), free) = pure (ForInStep.yield ((#[] : Array Nat).push a, a + sub.length)) := by
    unfold occBody
    exact if_pos ⟨⟨⟨by simp, ha⟩, hc.1⟩, hc.2⟩
   rw [e2]
   show (forIn l (((#[] : Array Nat).push a), a + sub.length) (occBody s sub hi 1)).run.fst.toList = _
   rw [aDi s sub hi l _ (by simp)]
   rfl
  ·have e : ¬ (decide (a + sub.length <= hi) && Builtin.Str.subAt s sub a) = true := fun z => hc (by simpa using z)
   rw [List.find?_cons_of_neg (p := fun i => decide (i + sub.length <= hi) && Builtin.Str.subAt s sub i) e]
   have e2 : occBody s sub hi 1 a ((#[] : Array Nat), free) = pure (ForInStep.yield ((#[] : Array Nat), free)) := by
    unfold occBody
    exact if_neg fun h => hc ⟨h.1.2, h.2⟩
   rw [e2]
   exact aDj s sub hi l free fun i hi' => hf i (List.mem_cons_of_mem _ hi')
theorem qC (x y : List Nat) (lo : Nat) : Builtin.Str.occurrences ⟨x.toArray⟩ ⟨y.toArray⟩ lo (⟨x.toArray⟩ : Str).length 1 = (fC x y lo).toList := by
 rw [occ_eq, aDj _ _ _ _ _ (fun i hi => by simp [List.mem_range'] at hi; omega)]
 unfold fC
 simp only [aF3, str_len]
theorem aNd (x y : List Nat) : Txt.find ⟨x.toArray⟩ ⟨y.toArray⟩ = lY (fC x y 0) := by
 unfold Txt.find
 rw [qC]
 cases fC x y 0 <;> rfl
theorem aKw (x y : List Nat) (i : Int) (h : 0 <= i) : Txt.find3 ⟨x.toArray⟩ ⟨y.toArray⟩ i = lY (fC x y i.toNat) := by
 have e : fromIndex (⟨x.toArray⟩ : Str).length i = i.toNat := by unfold fromIndex; rw [if_neg (by omega)]; omega
 unfold Txt.find3
 rw [e, qC]
 cases fC x y i.toNat <;> rfl
theorem iT {α : Type} (p : α -> Bool) : ∀ x : List α, x.drop (x.takeWhile p).length = x.dropWhile p
 | [] => rfl
 | a :: x => by
  cases h : p a with
  | true => rw [List.takeWhile_cons_of_pos h, List.dropWhile_cons_of_pos h, List.length_cons, List.drop_succ_cons, iT p x]
  | false => rw [List.takeWhile_cons_of_neg (by simp [h]), List.dropWhile_cons_of_neg (by simp [h])]; rfl
theorem qX {α : Type} (p : α -> Bool) (x : List α) : (x.takeWhile p).length + (x.dropWhile p).length = x.length := by
 rw [<- List.length_append, List.takeWhile_append_dropWhile]
theorem aKx (x y : List Nat) : Txt.stripChars ⟨x.toArray⟩ ⟨y.toArray⟩ = ⟨(lZ x y).toArray⟩ := by
 have hp : (y.toArray.contains : Nat -> Bool) = fun c => y.contains c := by funext c; simp
 have key : Builtin.Str.strSub ⟨x.toArray⟩ (stripLo y.toArray.contains true ⟨x.toArray⟩) (stripHi y.toArray.contains true ⟨x.toArray⟩ (stripLo y.toArray.contains true ⟨x.toArray⟩)) = ⟨(lZ x y).toArray⟩ := by
  unfold stripLo stripHi
  rw [hp]
  simp only [if_true]
  rw [iT]
  unfold lZ
  generalize hq : (fun c => y.contains c) = q
  have l1 := qX q x
  have l2 := qX q (x.dropWhile q).reverse
  rw [List.length_reverse] at l2
  unfold Builtin.Str.strSub
  simp only [str_len]
  congr 1
  apply Array.ext'
  rw [Array.toList_extract]
  simp only [List.toList_toArray, List.extract_eq_take_drop]
  rw [iT]
  have e3 : ((x.dropWhile q).reverse.dropWhile q).reverse = (x.dropWhile q).take ((x.dropWhile q).length - ((x.dropWhile q).reverse.takeWhile q).length) := by
   have : (x.dropWhile q).reverse.dropWhile q = (x.dropWhile q).reverse.drop ((x.dropWhile q).reverse.takeWhile q).length := (iT q _).symm
   rw [this, List.drop_reverse, List.reverse_reverse]
  rw [e3]
  congr 1
  omega
 unfold Txt.stripChars Txt.stripBy
 by_cases h : stripSame y.toArray.contains true true ⟨x.toArray⟩ = true
 ·rw [if_pos h]
  unfold stripSame at h
  rw [Bool.and_eq_true, beq_iff_eq, beq_iff_eq] at h
  rw [h.2, h.1] at key
  rw [<- key]
  unfold Builtin.Str.strSub
  simp [str_len]
 ·rw [if_neg h]
  exact key
section
variable {X : Cx} {B : List Addr} {a b e o : Expr} {f g : Ex} {pos : Pos}
theorem aNe {name : Str} {id : String} {m : Mop} {r : Exs} {es : List Expr} {apos cpos : Pos} {q : V -> List V -> Hp -> VK -> Prop} (slot : Slot "str" name id) (hty : typeOf (.builtin id) = pure (.type "method_descriptor")) (hm : MtR X id q)
  (hk : ∀ x xs d, m x xs = .ok d -> ∃ s, x = .str s) (sem : ∀ (A : List Addr) (H : Hp) (x d : D) (xs : List D) (v : V) (vs : List V) (Q : VK), Own A H -> iY X.K A H x v -> aW X.K (hide A H) xs vs -> m x xs = .ok d -> (∀ w H', aP H H' -> Rep X.K (hide A H') d w -> Q w H') -> q v vs H Q)
  (ho : PE X o (tP X.K B f)) (ha : PA X (e :: es) (tA X.K B r))
  (hbase : attributeBase o name X.env (eval o X.env) = eval o X.env := by rfl)
  (hfew : ((backTo cpos (starEach (e :: es) X.env)).all (fun x => !x.1) && (backToKw cpos (keywordEach [] X.env)).all (fun x => x.1.isSome)
   && decide ((e :: es).length + ([] : List Keyword).length + (if ([] : List Keyword).isEmpty then 0 else 1) < 30)) = true := by rfl)
  (hline : (apos.endLine == cpos.line) = true := by rfl) (hs : starEach (e :: es) X.env = (false, eval e X.env) :: starEach es X.env := by rfl) (hplain : (backTo cpos (starEach es X.env)).any (·.1) = false := by rfl) :
  PE X (.Call (.Attribute o name apos) (e :: es) [] cpos) (tI X.K B (eMt m f r)) := by
 refine cH (aFk PySem.F.plainAttrs_str slot hty hm ho ha hbase hfew hline hs hplain) ?_
 rintro σ H Q ⟨A, st, d, rs, hd, k⟩
 obtain ⟨x, hx, h2⟩ := R.ok_of hd
 obtain ⟨xs, hxs, h3⟩ := R.ok_of h2
 obtain ⟨s, rfl⟩ := hk x xs d h3
 refine ⟨A, st, _, rs, hx, fun v H1 s1 r1 => ⟨?_, A, st, xs, rs.mono s1, hxs, fun vs H2 s2 r2 => ?_⟩⟩
 ·rw [r1.str]; rfl
 ·exact sem (A ++ B) H2 _ d xs v vs Q (rs.own.mono (s1.trans s2)) (r1.mono s2) r2 h3 fun w H' s' r' => k w H' (s1.trans (s2.trans s')) r'
theorem aAv {K : PySem.W.Frag} {H : Hp} {d : D} {vs : List V} (h : aW K H [d] vs) : ∃ v, vs = [v] /\ Rep K H d v := by
 obtain ⟨v, r, rfl, h1, h2⟩ := bB.mp h
 rw [cC.mp h2]
 exact ⟨v, rfl, h1⟩
theorem aUw {K : PySem.W.Frag} {H : Hp} {d e : D} {vs : List V} (h : aW K H [d, e] vs) : ∃ v u, vs = [v, u] /\ Rep K H d v /\ Rep K H e u := by
 obtain ⟨v, r, rfl, h1, h2⟩ := bB.mp h
 obtain ⟨u, rfl, h3⟩ := aAv h2
 exact ⟨v, u, rfl, h1, h3⟩
theorem aNf : MtR X "str.find" (fun x vs H Q => ∃ (s : List Nat), x = .str ⟨s.toArray⟩ /\ ((∃ y : List Nat, vs = [.str ⟨y.toArray⟩] /\ Q (.int (lY (fC s y 0))) H) \/ ∃ (y : List Nat) (i : Int), vs = [.str ⟨y.toArray⟩, .int i] /\ 0 <= i /\ Q (.int (lY (fC s y i.toNat))) H)) := by
 intro pins s σ H x vs v us Q I rx rv h
 obtain ⟨z, rfl, h⟩ := h
 obtain ⟨t, rfl⟩ := rx
 rcases h with ⟨y, rfl, q⟩ | ⟨y, i, rfl, hi, q⟩
 ·obtain ⟨u, rfl, t2, rfl⟩ := rv.one
  exact SC.find ⟨.int _, H, I.tok _, ⟨_, rfl⟩, by rw [aNd]; exact q⟩
 ·obtain ⟨u, u2, rfl, ⟨t2, rfl⟩, ⟨t3, rfl⟩⟩ := rv.two
  exact SC.find3 ⟨.int _, H, I.tok _, ⟨_, rfl⟩, by rw [aKw _ _ _ hi]; exact q⟩
theorem aKy : MtR X "str.index" (fun x vs H Q => ∃ (s y : List Nat) (i : Nat), x = .str ⟨s.toArray⟩ /\ vs = [.str ⟨y.toArray⟩] /\ fC s y 0 = some i /\ Q (.int i) H) := by
 intro pins s σ H x vs v us Q I rx rv h
 obtain ⟨z, y, i, rfl, rfl, hi, q⟩ := h
 obtain ⟨t, rfl⟩ := rx
 obtain ⟨u, rfl, t2, rfl⟩ := rv.one
 exact SC.index (i := i) (rest := []) (by rw [qC, hi]; rfl) ⟨.int _, H, I.tok _, ⟨_, rfl⟩, q⟩
theorem aKz : MtR X "str.strip" (fun x vs H Q => ∃ (s y : List Nat), x = .str ⟨s.toArray⟩ /\ vs = [.str ⟨y.toArray⟩] /\ s.length <= sizeLine /\ Q (.str ⟨(lZ s y).toArray⟩) H) := by
 intro pins s σ H x vs v us Q I rx rv h
 obtain ⟨z, y, rfl, rfl, hz, q⟩ := h
 obtain ⟨t, rfl⟩ := rx
 obtain ⟨u, rfl, t2, rfl⟩ := rv.one
 exact SC.stripChars (fun t' k => ⟨.str ⟨(lZ z y).toArray⟩, H, I.tok _, ⟨_, by rw [aKx]⟩, q⟩) (by rw [str_len]; exact hz)
end
end Pu
namespace Pu
open PySem PySem.Spec PyProof.Rows L2 PySem.SeqAt
section
variable {X : Cx} {B : List Addr} {a b e o : Expr} {f g : Ex} {pos : Pos} {r : Exs} {es : List Expr} {apos cpos : Pos}
theorem aRi (ho : PE X o (tP X.K B f)) (ha : PA X (e :: es) (tA X.K B r)) (hbase : attributeBase o "find" X.env (eval o X.env) = eval o X.env := by rfl)
  (hfew : ((backTo cpos (starEach (e :: es) X.env)).all (fun x => !x.1) && (backToKw cpos (keywordEach [] X.env)).all (fun x => x.1.isSome)
   && decide ((e :: es).length + ([] : List Keyword).length + (if ([] : List Keyword).isEmpty then 0 else 1) < 30)) = true := by rfl)
  (hline : (apos.endLine == cpos.line) = true := by rfl) (hs : starEach (e :: es) X.env = (false, eval e X.env) :: starEach es X.env := by rfl) (hplain : (backTo cpos (starEach es X.env)).any (·.1) = false := by rfl) :
  PE X (.Call (.Attribute o "find" apos) (e :: es) [] cpos) (tI X.K B (eMt aA0 f r)) := by
 refine aNe (m := aA0) PySem.F.slot_str_find PySem.F.type_str_find aNf (fun x xs d h => ?_) (fun A H x d xs v vs Q w rx rxs h k => ?_) ho ha hbase hfew hline hs hplain
 ·cases x <;> first | exact ⟨_, rfl⟩ | exact nomatch h
 ·unfold aA0 at h
  split at h
  ·cases h
   obtain ⟨u, rfl, ru⟩ := aAv rxs
   exact ⟨_, rx.str, .inl ⟨_, by rw [aR.mp ru], k _ H (aP.refl _) (aN.mpr rfl)⟩⟩
  ·obtain ⟨c, h⟩ := aJ h
   cases h
   obtain ⟨u, u2, rfl, ru, ru2⟩ := aUw rxs
   exact ⟨_, rx.str, .inr ⟨_, _, by rw [aR.mp ru, aN.mp ru2], c, k _ H (aP.refl _) (aN.mpr rfl)⟩⟩
  ·cases h
theorem aNg (ho : PE X o (tP X.K B f)) (ha : PA X (e :: es) (tA X.K B r)) (hbase : attributeBase o "index" X.env (eval o X.env) = eval o X.env := by rfl)
  (hfew : ((backTo cpos (starEach (e :: es) X.env)).all (fun x => !x.1) && (backToKw cpos (keywordEach [] X.env)).all (fun x => x.1.isSome)
   && decide ((e :: es).length + ([] : List Keyword).length + (if ([] : List Keyword).isEmpty then 0 else 1) < 30)) = true := by rfl)
  (hline : (apos.endLine == cpos.line) = true := by rfl) (hs : starEach (e :: es) X.env = (false, eval e X.env) :: starEach es X.env := by rfl) (hplain : (backTo cpos (starEach es X.env)).any (·.1) = false := by rfl) :
  PE X (.Call (.Attribute o "index" apos) (e :: es) [] cpos) (tI X.K B (eMt uN f r)) := by
 refine aNe (m := uN) PySem.F.slot_str_index PySem.F.type_str_index aKy (fun x xs d h => ?_) (fun A H x d xs v vs Q w rx rxs h k => ?_) ho ha hbase hfew hline hs hplain
 ·cases x <;> first | exact ⟨_, rfl⟩ | exact nomatch h
 ·unfold uN at h
  split at h
  ·obtain ⟨i, hi, h⟩ := R.ok_of h
   cases h
   obtain ⟨u, rfl, ru⟩ := aAv rxs
   exact ⟨_, _, i, rx.str, by rw [aR.mp ru], rM hi, k _ H (aP.refl _) (aN.mpr rfl)⟩
  ·cases h
theorem aNh (ho : PE X o (tP X.K B f)) (ha : PA X (e :: es) (tA X.K B r)) (hbase : attributeBase o "strip" X.env (eval o X.env) = eval o X.env := by rfl)
  (hfew : ((backTo cpos (starEach (e :: es) X.env)).all (fun x => !x.1) && (backToKw cpos (keywordEach [] X.env)).all (fun x => x.1.isSome)
   && decide ((e :: es).length + ([] : List Keyword).length + (if ([] : List Keyword).isEmpty then 0 else 1) < 30)) = true := by rfl)
  (hline : (apos.endLine == cpos.line) = true := by rfl) (hs : starEach (e :: es) X.env = (false, eval e X.env) :: starEach es X.env := by rfl) (hplain : (backTo cpos (starEach es X.env)).any (·.1) = false := by rfl) :
  PE X (.Call (.Attribute o "strip" apos) (e :: es) [] cpos) (tI X.K B (eMt xM f r)) := by
 refine aNe (m := xM) PySem.F.slot_str_strip PySem.F.type_str_strip aKz (fun x xs d h => ?_) (fun A H x d xs v vs Q w rx rxs h k => ?_) ho ha hbase hfew hline hs hplain
 ·cases x <;> first | exact ⟨_, rfl⟩ | exact nomatch h
 ·unfold xM at h
  split at h
  ·obtain ⟨c, h⟩ := aJ h
   cases h
   obtain ⟨u, rfl, ru⟩ := aAv rxs
   exact ⟨_, _, rx.str, by rw [aR.mp ru], lim c, k _ H (aP.refl _) (aR.mpr rfl)⟩
  ·cases h
theorem aRj {p0 : Pos} (hm : X.mg "max" = none) (hc : X.calm = true) (ha : PE X a (tP X.K B f)) (hb : PE X b (tP X.K B g)) (hg : Gl X "max" := by rfl) (hs : starEach [a, b] X.env = (false, eval a X.env) :: starEach [b] X.env := by rfl)
  (hs2 : starEach [b] X.env = (false, eval b X.env) :: starEach [] X.env := by rfl) (hpl : (backTo pos (starEach [b] X.env)).any (·.1) = false := by rfl) : PE X (.Call (.Name "max" p0) [a, b] [] pos) (tI X.K B (e2 aA1 f g)) := by
 refine cH (mZ (aH5 hc) hg hm (by rfl) (cW ha (cW hb fK hs2) hs) (he := hs) (hpl := hpl)) ?_
 rintro σ H Q ⟨A, st, d, rs, hd, q⟩
 obtain ⟨x, hx, h2⟩ := R.ok_of hd
 obtain ⟨y, hy, h3⟩ := R.ok_of h2
 refine ⟨A, st, x, rs, hx, fun v H1 s1 r1 => ⟨A, st, y, rs.mono s1, hy, fun u H2 s2 r2 => ?_⟩⟩
 unfold aA1 at h3
 split at h3
 case h_2 => cases h3
 cases h3
 exact ⟨_, _, by rw [r1.int, r2.int], q _ H2 (s1.trans s2) (aN.mpr rfl)⟩
theorem aRk {p0 : Pos} (hm : X.mg "min" = none) (hc : X.calm = true) (ha : PE X a (tP X.K B f)) (hb : PE X b (tP X.K B g)) (hg : Gl X "min" := by rfl) (hs : starEach [a, b] X.env = (false, eval a X.env) :: starEach [b] X.env := by rfl)
  (hs2 : starEach [b] X.env = (false, eval b X.env) :: starEach [] X.env := by rfl) (hpl : (backTo pos (starEach [b] X.env)).any (·.1) = false := by rfl) : PE X (.Call (.Name "min" p0) [a, b] [] pos) (tI X.K B (e2 aA2 f g)) := by
 refine cH (mZ (aH6 hc) hg hm (by rfl) (cW ha (cW hb fK hs2) hs) (he := hs) (hpl := hpl)) ?_
 rintro σ H Q ⟨A, st, d, rs, hd, q⟩
 obtain ⟨x, hx, h2⟩ := R.ok_of hd
 obtain ⟨y, hy, h3⟩ := R.ok_of h2
 refine ⟨A, st, x, rs, hx, fun v H1 s1 r1 => ⟨A, st, y, rs.mono s1, hy, fun u H2 s2 r2 => ?_⟩⟩
 unfold aA2 at h3
 split at h3
 case h_2 => cases h3
 cases h3
 exact ⟨_, _, by rw [r1.int, r2.int], q _ H2 (s1.trans s2) (aN.mpr rfl)⟩
theorem aDk (ha : PE X a (tP X.K B f)) : PE X (.UnaryOp .USub a pos) (tI X.K B (e1 wB f)) := by
 refine cH (aSx aPn ha) ?_
 rintro σ H Q ⟨A, st, d, rs, hd, q⟩
 obtain ⟨x, hx, h2⟩ := R.ok_of hd
 refine ⟨A, st, x, rs, hx, fun v H1 s1 r1 => ?_⟩
 cases x <;> first | (cases h2; done) | skip
 cases h2
 exact ⟨_, r1.int, q _ H1 s1 (aN.mpr rfl)⟩
open Classical in
noncomputable def qJ (K : PySem.W.Frag) (H : Hp) (x : D) (u : Value) : Bool := if ∃ d z, Rep K H d z /\ RelV z u /\ plain d = true /\ eqD d x = true then true else false
theorem aGk {pins : List (Addr × Obj)} {σ : LSt} {H : Hp} {s : Shared} (I : Inv X pins σ H s) {x d : D} {z : V} {u : Value} (r : Rep X.K H d z) (rz : RelV z u) (pd : plain d = true) : qJ X.K H x u = eqD d x := by
 unfold qJ
 split
 ·rename_i h
  obtain ⟨d', z', r', rz', pd', e⟩ := h
  have := RelV.inj rz rz'
  subst this
  rw [Rep.inj I pd pd' r r', e]
 ·rename_i h
  cases hb : eqD d x with
  | false => rfl
  | true => exact (h ⟨d, z, r, rz, pd, hb⟩).elim
theorem yR {pins : List (Addr × Obj)} {σ : LSt} {H : Hp} {s : Shared} (I : Inv X pins σ H s) {x : D} : ∀ {ds : List D} {zs : List V} {us : List Value}, aW X.K H ds zs -> Vals zs us -> cF ds = true -> us.any (qJ X.K H x) = inD x ds
 | [], zs, us, r, v, _ => by
  have e := cC.mp r; subst e; cases v; rfl
 | d :: ds, zs, us, r, v, p => by
  obtain ⟨z, r', e, h1, h2⟩ := bB.mp r; subst e
  simp only [eY, Bool.and_eq_true] at p
  cases v with
  | cons v vs =>
   rw [List.any_cons, aGk I h1 v p.1, yR I h2 vs p.2]
   unfold inD
   rw [List.any_cons]
theorem yS {pins : List (Addr × Obj)} {σ : LSt} {H : Hp} {s : Shared} (I : Inv X pins σ H s) {A : Around} {x : D} {zx : V} {ux : Value} (rx : Rep X.K H x zx) (vx : RelV zx ux) (px : plain x = true) : ∀ {ds : List D} {zs : List V} {us : List Value}, aW X.K H ds zs -> Vals zs us -> cF ds = true -> A.units + dD ds < cLine -> ∀ u ∈ us, EqAt A s u ux (qJ X.K H x u)
 | [], zs, us, r, v, _, _ => by
  have e := cC.mp r; subst e; cases v; exact fun u hu => nomatch hu
 | d :: ds, zs, us, r, v, p, hd => by
  obtain ⟨z, r', e, h1, h2⟩ := bB.mp r; subst e
  simp only [eY, Bool.and_eq_true] at p
  rw [pW] at hd
  cases v with
  | cons v vs =>
   intro u hu
   rcases List.mem_cons.mp hu with rfl | hu
   ·rw [aGk I h1 v p.1]
    exact yQ I d x A z zx _ ux h1 rx v vx (by omega) p.1 px
   ·exact yS I rx vx px h2 vs p.2 (by omega) u hu
def aNi (K : PySem.W.Frag) (neg : Bool) : R2 := fun v u H Q => (∃ a o, u = .ref a /\ uL H a v o /\ Q (.bl (if neg then !o.isSome else o.isSome)) H) \/ (∃ x ds zs p, u = .ref p /\ (SqL K H p zs \/ SqT K H p zs) /\ Rep K H x v /\ aW K H ds zs /\ dD ds <= 60 /\ plain x = true /\ cF ds = true /\ Q (.bl (if neg then !inD x ds else inD x ds)) H) \/
 ∃ i j : List Nat, v = .str ⟨i.toArray⟩ /\ u = .str ⟨j.toArray⟩ /\ Q (.bl (if neg then !(fC j i 0).isSome else (fC j i 0).isSome)) H
theorem some_of (x y : List Nat) : (!(Builtin.Str.occurrences ⟨x.toArray⟩ ⟨y.toArray⟩ 0 (⟨x.toArray⟩ : Str).length 1).isEmpty) = (fC x y 0).isSome := by
 rw [qC]
 cases fC x y 0 <;> rfl
theorem aL0 (hu : X.A.units + 64 < cLine) : OpR X (compareOp .In) (aNi X.K false) := by
 intro pins s σ H v u a b Q I ra rb h
 rcases h with ⟨p, o, rfl, g, q⟩ | ⟨x, ds, zs, p, rfl, hq, rx, rds, hd, px, pd, q⟩ | ⟨i, j, rfl, rfl, q⟩
 ·cases rb
  exact aWx (by omega) I g ra fun s' I' => ⟨.bl _, H, I', rfl, q⟩
 ·cases rb
  have hin : X.A.in1.units + dD ds < cLine := by show X.A.units + 1 + dD ds < cLine; omega
  rcases hq with hq | hq
  ·obtain ⟨its, r, pl, hz⟩ := I.list hq
   refine SeqAt.in_listAt (qJ X.K H x) pl.isList (fun w hw => yS I rx ra px rds r pd hin w (by simpa using hw)) ⟨.bl _, H, I, rfl, ?_⟩
   rw [show its.toArray.any (qJ X.K H x) = its.any (qJ X.K H x) by simp, yR I rds r pd]
   exact q
  ·obtain ⟨its, r, pl, hz⟩ := I.tuple hq
   refine SeqAt.in_tupleAt (qJ X.K H x) pl (fun w hw => yS I rx ra px rds r pd hin w (by simpa using hw)) ⟨.bl _, H, I, rfl, ?_⟩
   rw [show its.toArray.any (qJ X.K H x) = its.any (qJ X.K H x) by simp, yR I rds r pd]
   exact q
 ·refine aH4 pins s σ H _ _ a b Q I ra rb ⟨_, _, rfl, rfl, ?_⟩
  rw [some_of]
  exact q
theorem uZ (hu : X.A.units + 64 < cLine) : OpR X (compareOp .NotIn) (aNi X.K true) := by
 intro pins s σ H v u a b Q I ra rb h
 rcases h with ⟨p, o, rfl, g, q⟩ | ⟨x, ds, zs, p, rfl, hq, rx, rds, hd, px, pd, q⟩ | ⟨i, j, rfl, rfl, q⟩
 ·cases rb
  exact aM6 (by omega) I g ra fun s' I' => ⟨.bl _, H, I', rfl, q⟩
 ·cases rb
  have hin : X.A.in1.units + dD ds < cLine := by show X.A.units + 1 + dD ds < cLine; omega
  rcases hq with hq | hq
  ·obtain ⟨its, r, pl, hz⟩ := I.list hq
   refine SeqAt.notIn_listAt (qJ X.K H x) pl.isList (fun w hw => yS I rx ra px rds r pd hin w (by simpa using hw)) ⟨.bl _, H, I, rfl, ?_⟩
   rw [show its.toArray.any (qJ X.K H x) = its.any (qJ X.K H x) by simp, yR I rds r pd]
   exact q
  ·obtain ⟨its, r, pl, hz⟩ := I.tuple hq
   refine SeqAt.notIn_tupleAt (qJ X.K H x) pl (fun w hw => yS I rx ra px rds r pd hin w (by simpa using hw)) ⟨.bl _, H, I, rfl, ?_⟩
   rw [show its.toArray.any (qJ X.K H x) = its.any (qJ X.K H x) by simp, yR I rds r pd]
   exact q
 ·refine aB4 pins s σ H _ _ a b Q I ra rb ⟨_, _, rfl, rfl, ?_⟩
  rw [some_of]
  exact q
theorem aL1 {K : PySem.W.Frag} : qI K (aNi K false) dIn := by
 intro A H x y d v u Q w rx ry e q
 unfold dIn at e
 split at e
 ·obtain ⟨c, e⟩ := aJ e
  cases e
  rename_i t ks ds
  have rxr : Rep K H x v := rx.rep
  obtain ⟨a, o, e1, g, g1, _⟩ := aC2 ry rxr c
  exact .inl ⟨a, o, e1, g, by rw [g1]; exact q _ H (aP.refl _) (bA.mpr rfl)⟩
 ·obtain ⟨c, e⟩ := aJ e
  cases e
  obtain ⟨p, zs, h1, h2, h3⟩ := ry.lst
  exact .inr (.inl ⟨_, _, zs, p, h1, .inl h2, rx.rep, h3.mono (aX _ _), c.1, c.2.1, c.2.2, q _ H (aP.refl _) (bA.mpr rfl)⟩)
 ·obtain ⟨c, e⟩ := aJ e
  cases e
  obtain ⟨p, zs, h1, h2, h3⟩ := ry.tup
  exact .inr (.inl ⟨_, _, zs, p, h1, .inr h2, rx.rep, h3.mono (aX _ _), c.1, c.2.1, c.2.2, q _ H (aP.refl _) (bA.mpr rfl)⟩)
 ·cases e
  exact .inr (.inr ⟨_, _, rx.str, ry.str, q _ H (aP.refl _) (bA.mpr rfl)⟩)
 ·cases e
theorem vA {K : PySem.W.Frag} : qI K (aNi K true) lC := by
 intro A H x y d v u Q w rx ry e q
 unfold lC at e
 split at e
 ·obtain ⟨c, e⟩ := aJ e
  cases e
  rename_i t ks ds
  have rxr : Rep K H x v := rx.rep
  obtain ⟨a, o, e1, g, g1, _⟩ := aC2 ry rxr c
  exact .inl ⟨a, o, e1, g, by rw [g1]; exact q _ H (aP.refl _) (bA.mpr rfl)⟩
 ·obtain ⟨c, e⟩ := aJ e
  cases e
  obtain ⟨p, zs, h1, h2, h3⟩ := ry.lst
  exact .inr (.inl ⟨_, _, zs, p, h1, .inl h2, rx.rep, h3.mono (aX _ _), c.1, c.2.1, c.2.2, q _ H (aP.refl _) (bA.mpr rfl)⟩)
 ·obtain ⟨c, e⟩ := aJ e
  cases e
  obtain ⟨p, zs, h1, h2, h3⟩ := ry.tup
  exact .inr (.inl ⟨_, _, zs, p, h1, .inr h2, rx.rep, h3.mono (aX _ _), c.1, c.2.1, c.2.2, q _ H (aP.refl _) (bA.mpr rfl)⟩)
 ·cases e
  exact .inr (.inr ⟨_, _, rx.str, ry.str, q _ H (aP.refl _) (bA.mpr rfl)⟩)
 ·cases e
end
end Pu
namespace Pu
open PySem PySem.Spec PyProof.Rows L2
section
variable {X : Cx} {B : List Addr} {a b e : Expr} {f g : Ex} {pos : Pos}
theorem aGl (i : Nat) {x : Str} {p1 apos cpos : Pos} (he : PE X e (tI X.K B f)) (hN : X.N[i]? = some x := by rfl) (hv : Vis X.env.scope x := by first | exact Or.inl rfl | exact Or.inr (Or.inl rfl) | exact Or.inr (Or.inr rfl)) (hd : (x == ("__debug__" : Str)) = false := by decide)
  (hcd : (x == ("__classdict__" : Str)) = false := by decide) (hbase : attributeBase (.Name x p1) "append" X.env (eval (.Name x p1) X.env) = eval (.Name x p1) X.env := by rfl)
  (hfew : ((backTo cpos (starEach [e] X.env)).all (fun x => !x.1) && (backToKw cpos (keywordEach [] X.env)).all (fun x => x.1.isSome)
   && decide (([e] : List Expr).length + ([] : List Keyword).length + (if ([] : List Keyword).isEmpty then 0 else 1) < 30)) = true := by rfl)
  (hline : (apos.endLine == cpos.line) = true := by rfl) (hs : starEach [e] X.env = (false, eval e X.env) :: starEach [] X.env := by rfl)
  (hsw : swapsWith (.Call (.Attribute (.Name x p1) "append" apos) [e] [] cpos) none pos.line X.env = pure false := by rfl) :
  PS X (.Expr (.Call (.Attribute (.Name x p1) "append" apos) [e] [] cpos) pos) (tS X.K B (aBg i f)) := by
 refine dU (wL (aFk PySem.F.plainAttrs_list PySem.F.slot_list_append PySem.F.type_list_append aHb (oU hN hv hd hcd) (cW he fK hs) hbase hfew hline hs rfl) hsw) ?_
 rintro Dn σ H ⟨A, st, r, rs, hr, p⟩
 obtain ⟨d, hd, h3⟩ := R.ok_of hr
 split at h3
 ·rename_i xs e1
  obtain ⟨c, h4⟩ := aJ h3
  cases h4
  obtain ⟨l, o, vs, e2, m, h1, ko, q, u⟩ := rs.lst i _ xs e1
  have eo : o = .lst vs := ko
  subst eo
  refine ⟨.ref l, e2, .inl ⟨rfl, vs, SqL.of h1⟩, A, st, d, rs, hd, fun v H' s rv => ?_⟩
  have ql := q.length
  refine ⟨l, vs, v, rfl, rfl, s _ _ h1, by rw [ql]; rw [jZ] at c; exact Nat.lt_of_lt_of_le c (by decide), ?_⟩
  obtain ⟨w1, w2⟩ := (rs.mono s).write e1 e2 (k1 := .l) (ds := xs ++ [d]) (vs' := vs ++ [v]) rfl ((q.mono (aP.hide s)).append (.cons rv .nil))
  exact p A _ _ ((Le.of s).trans w2) w1
 ·cases h3
theorem aGm (i : Nat) {x : Str} {pos' dp : Pos} (hN : X.N.Nodup) (hi : X.N[i]? = some x := by rfl) (hx : Loc X.env.scope x := by first | exact Or.inl rfl | exact Or.inr rfl) (hs : swapsWith (.Dict [] [] dp) (some (.Name x pos')) pos.line X.env = pure false := by rfl)
  (hf : X.fn x = true \/ X.env.scope.names.lookup x = some .local := by first | exact .inl rfl | exact .inr rfl | assumption) : PS X (.Assign [.Name x pos'] (.Dict [] [] dp) pos) (tS X.K B (aFm i false)) := dU (uH hN hi hx aJ6 hs hf) (by
 rintro Dn σ H ⟨A, st, r, rs, hr, p⟩
 cases hr
 exact fun a ha => p (a :: A) _ _ (aC3 ha) (rs.setO (kk := .d false []) i ha (.inl ⟨rfl, [], rfl, rfl, rfl⟩) .nil))
def aUx : V -> V -> V -> Hp -> (Hp -> Prop) -> Prop := fun o i v H Q => ∃ p H', o = .ref p /\ aBc H p i v H' /\ Q H'
theorem set_dict (hu : X.A.units + 64 < cLine) : aSr X aUx := by
 intro pins s σ H o i v ov iv u Q I ro ri rv h
 obtain ⟨p, H', rfl, g, q⟩ := h
 cases ro
 exact aHg (by omega) I g ri rv fun s' I' => ⟨H', I', q⟩
theorem aF4 (hu : X.A.units + 64 < cLine) (i : Nat) {x : Str} {j : Expr} {p1 p2 : Pos} (hj : PE X j (tI X.K B g)) (he : PE X e (tI X.K B f)) (hN : X.N[i]? = some x := by rfl) (hv : Vis X.env.scope x := by first | exact Or.inl rfl | exact Or.inr (Or.inl rfl) | exact Or.inr (Or.inr rfl)) (hd : (x == ("__debug__" : Str)) = false := by decide)
  (hcd : (x == ("__classdict__" : Str)) = false := by decide)
  (ha : ∀ v, assign (.Subscript (.Name x p1) j p2) X.env v = (do
   let ov <- holding [v] (eval (.Name x p1) X.env)
   let iv <- holding [v, ov] (eval j X.env)
   standAt p2
   holding [v, ov, iv] (setItem ov iv v)
   release [v, ov, iv] []) := by intro _; rfl)
  (hs : swapsWithSole [.Subscript (.Name x p1) j p2] e pos.line X.env = pure false := by rfl) (hw : swappedStores [.Subscript (.Name x p1) j p2] e X.env = pure none := by rfl)
  (h1 : (assignEach [.Subscript (.Name x p1) j p2] X.env).map (·.2) = [assign (.Subscript (.Name x p1) j p2) X.env] := by rfl) :
  PS X (.Assign [.Subscript (.Name x p1) j p2] e pos) (tS X.K B (sDPut i g f)) := by
 refine dU (aIo he (aPe (oU hN hv hd hcd) hj (set_dict hu) ha) hs hw h1) ?_
 rintro Dn σ H ⟨A, st, r, rs, hr, p⟩
 obtain ⟨d, hd, h3⟩ := R.ok_of hr
 obtain ⟨k, hk, h5⟩ := R.ok_of h3
 split at h5
 ·rename_i t ks ds e1
  obtain ⟨c, h6⟩ := aJ h5
  cases h6
  obtain ⟨l, o, vs, e2, m, h1, ko, q, u⟩ := rs.lst i _ _ e1
  refine ⟨A, st, d, rs, hd, fun v H' s rv => ⟨.ref l, e2, A, st, k, rs.mono s, hk, fun w H2 s2 rk => ?_⟩⟩
  have hl : H2 l = some o := (s.trans s2) _ _ h1
  have q2 := q.mono (aP.hide (s.trans s2))
  have rv2 := rv.mono (aP.hide s2)
  have rk2 : Rep X.K H2 k w := rk.mono (aX _ _)
  have hlen : ds.length < sizeLine := by have := c.2; rw [jZ] at this; exact Nat.lt_of_lt_of_le this (by decide)
  have ql := q.length
  rcases ko with ⟨rfl, kvs, rfl, rfl, rfl⟩ | ⟨rfl, kvs, rfl, rfl, rfl⟩
  ·obtain ⟨k', e3, e4⟩ := rN rk2 c.1
   subst e3 e4
   obtain ⟨z1, z2⟩ := aGb aC0 k' v d rv2 kvs ds q2
   refine ⟨l, _, rfl, aBc.k hl (by rw [List.length_map] at ql; omega), ?_⟩
   obtain ⟨w1, w2⟩ := (rs.mono (s.trans s2)).write e1 e2 (k1 := .d false (nY (kvs.map fun p => iQ p.1) (iQ k'))) (.inl ⟨rfl, putK kvs k' v, rfl, z1, rfl⟩) z2
   exact p A _ _ ((Le.of (s.trans s2)).trans w2) w1
  ·obtain ⟨k', b, e3, e4, e5⟩ := vW rk2 c.1
   subst e3 e4
   obtain ⟨z1, z2⟩ := aGb (E := fun l => D.tup (l.map iQ)) aDc k' v d rv2 kvs ds q2
   refine ⟨l, _, rfl, aBc.t hl e5 (by rw [List.length_map] at ql; omega), ?_⟩
   obtain ⟨w1, w2⟩ := (rs.mono (s.trans s2)).write e1 e2 (k1 := .d true (nY (kvs.map fun p => D.tup (p.1.map iQ)) (.tup (k'.map iQ)))) (.inr ⟨rfl, putK kvs k' v, rfl, z1, rfl⟩) z2
   exact p A _ _ ((Le.of (s.trans s2)).trans w2) w1
 ·cases h5
theorem aXj {lo hi : Option Expr} {l u : ExO} {p2 : Pos} (ha : PE X a (tP X.K B f)) (hl : PO X lo (tO X.K B l)) (hu : PO X hi (tO X.K B u)) : PE X (.Subscript a (.Slice lo hi none p2) pos) (tF X.K B (eSl f l u)) := by
 refine cH (aCl aFj ha hl hu) ?_
 rintro σ H Q ⟨A, st, d, rs, hd, q⟩
 obtain ⟨x, hx, h2⟩ := R.ok_of hd
 obtain ⟨l', hl', h3⟩ := R.ok_of h2
 obtain ⟨u', hu', h4⟩ := R.ok_of h3
 refine ⟨A, st, x, rs, hx, fun v H1 s1 r1 => ⟨A, st, l', rs.mono s1, hl', fun H2 s2 => ⟨A, st, u', rs.mono (s1.trans s2), hu', fun H3 s3 => ?_⟩⟩⟩
 have r3 := r1.mono (s2.trans s3)
 cases x <;> first | (cases h4; done) | skip
 ·obtain ⟨c, h5⟩ := aJ h4
  cases h5
 ·cases h4
  obtain ⟨p, vs, e, h6, r6⟩ := r3.lst
  exact ⟨p, vs, e, h6, fun n hn => q n _ H3 (s1.trans (s2.trans s3)) hn (aDe _ _ r6)⟩
theorem aUy (i : Nat) {x : Str} {p1 apos cpos : Pos} (he : PE X e (tF X.K B f)) (hN : X.N[i]? = some x := by rfl) (hv : Vis X.env.scope x := by first | exact Or.inl rfl | exact Or.inr (Or.inl rfl) | exact Or.inr (Or.inr rfl)) (hd : (x == ("__debug__" : Str)) = false := by decide)
  (hcd : (x == ("__classdict__" : Str)) = false := by decide) (hbase : attributeBase (.Name x p1) "extend" X.env (eval (.Name x p1) X.env) = eval (.Name x p1) X.env := by rfl)
  (hfew : ((backTo cpos (starEach [e] X.env)).all (fun x => !x.1) && (backToKw cpos (keywordEach [] X.env)).all (fun x => x.1.isSome)
   && decide (([e] : List Expr).length + ([] : List Keyword).length + (if ([] : List Keyword).isEmpty then 0 else 1) < 30)) = true := by rfl)
  (hline : (apos.endLine == cpos.line) = true := by rfl) (hs : starEach [e] X.env = (false, eval e X.env) :: starEach [] X.env := by rfl)
  (hsw : swapsWith (.Call (.Attribute (.Name x p1) "extend" apos) [e] [] cpos) none pos.line X.env = pure false := by rfl) :
  PS X (.Expr (.Call (.Attribute (.Name x p1) "extend" apos) [e] [] cpos) pos) (tS X.K B (aMa i f)) := by
 refine dU (wL (aFk PySem.F.plainAttrs_list PySem.F.slot_list_extend PySem.F.type_list_extend aHc (oU hN hv hd hcd) (cW he fK hs) hbase hfew hline hs rfl) hsw) ?_
 rintro Dn σ H ⟨A, st, r, rs, hr, p⟩
 obtain ⟨d, hd, h3⟩ := R.ok_of hr
 cases d <;> first | (cases h3; done) | skip
 rename_i ys
 have h3' : (match st[i]? with | some (some (.o .l xs)) => aH (xs.length + ys.length <= big) (R.ok (Fl.nx (st.set i (some (.o .l (xs ++ ys)))))) | _ => .bad) = .ok r := h3
 split at h3'
 ·rename_i xs e1
  obtain ⟨c, h4⟩ := aJ h3'
  cases h4
  obtain ⟨l, o, vs, e2, m, h1, ko, q, u⟩ := rs.lst i _ xs e1
  have eo : o = .lst vs := ko
  subst eo
  refine ⟨.ref l, e2, .inl ⟨rfl, vs, SqL.of h1⟩, A, st, ys, rs, hd, fun n zs H' s hn rz => ?_⟩
  have ql := q.length
  have zl := rz.length
  have hl : H' l = some (.lst vs) := s _ _ h1
  have ne : l ≠ n := aU hl hn
  refine ⟨l, n, vs, zs, rfl, rfl, by rw [bG ne]; exact hl, bV, by rw [ql, zl]; exact lim c, ?_⟩
  have s2 := s.trans (cI (o := HO.lst zs) hn)
  obtain ⟨w1, w2⟩ := (rs.mono s2).write e1 e2 (k1 := .l) (ds := xs ++ ys) (vs' := vs ++ zs) rfl ((q.mono (aP.hide s2)).append (rz.mono (aP.hide (cI hn))))
  exact p A _ _ ((Le.of s2).trans w2) w1
 ·cases h3'
end
end Pu
namespace Pu
open PySem PySem.Spec PyProof.Rows L2
section
open PySem.SeqAt
open PySem.AutoSeq1 (wpAny_loadPart')
open PySem.MeetsSeq PySem.MeetsSeq2 PySem.MeetsSeq3
inductive LexV (A : Around) (s : Shared) : List Value -> List Value -> Bool -> Prop where
 | nn : LexV A s [] [] false
 | nc {w : Value} {ws : List Value} : LexV A s [] (w :: ws) true
 | cn {v : Value} {vs : List Value} : LexV A s (v :: vs) [] false
 | eq {v w : Value} {vs ws : List Value} {b : Bool} : EqAt A s v w true -> LexV A s vs ws b -> LexV A s (v :: vs) (w :: ws) b
 | lt {v w : Value} {vs ws : List Value} {b : Bool} : EqAt A s v w false -> (∀ (prog : Program) (wd : World) (E Q : Value -> Shared -> Prop), Q (.bool b) s -> wpAny (model prog wd) A (richCompare .Lt v w) Q E s) -> LexV A s (v :: vs) (w :: ws) b
end
section
variable {X : Cx}
end
end Pu
namespace Pu
open PySem PySem.Spec PyProof.Rows L2
structure ClsAt (K : PySem.W.Frag) (c : String) (C : Addr) : Prop where
 ns : PySem.W.nsIn K mainGlobals (Str.ofString c) = some (some (.ref C))
 cl : Cls K C
theorem nW {a b : String} (h : Str.ofString a = Str.ofString b) : a = b := by
 have h1 : (Str.ofString a).cps = (Str.ofString b).cps := by rw [h]
 rw [Str.ofString_eq_toList, Str.ofString_eq_toList] at h1
 have h2 : a.toList.map Char.toNat = b.toList.map Char.toNat := by
  have := congrArg Array.toList h1
  simpa using this
 have inj : ∀ (x y : List Char), x.map Char.toNat = y.map Char.toNat -> x = y := by
  intro x
  induction x with
  | nil => intro y h; cases y with | nil => rfl | cons _ _ => simp at h
  | cons a x ih =>
   intro y h
   cases y with
   | nil => simp at h
   | cons b y =>
    rw [List.map_cons, List.map_cons] at h
    injection h with h3 h4
    rw [ih y h4]
    congr 1
    exact Char.ext (UInt32.toNat_inj.mp h3)
 exact String.toList_inj.mp (inj _ _ h2)
section
variable {K : PySem.W.Frag} {H : Hp}
theorem yU {f : String} : ∀ {ns : List String} {ds : List D} {fs : List (Str × V)} {d : D}, fs.map (·.1) = ns.map Str.ofString -> aW K H ds (fs.map (·.2)) -> (ns.zip ds).lookup f = some d -> ∃ v, fs.lookup (Str.ofString f) = some v /\ Rep K H d v
 | [], ds, fs, d, _, _, h => by simp at h
 | n :: ns, [], fs, d, _, _, h => by simp at h
 | n :: ns, d0 :: ds, [], d, e, _, h => by simp at e
 | n :: ns, d0 :: ds, (g, w) :: fs, d, e, r, h => by
  rw [List.map_cons, List.map_cons] at e
  injection e with e1 e2
  obtain ⟨v, r', e3, h1, h2⟩ := bB.mp r
  rw [List.map_cons] at e3
  injection e3 with e4 e5
  subst e4 e5
  have e1' : g = Str.ofString n := e1
  subst e1'
  rw [List.zip_cons_cons, List.lookup_cons] at h
  rw [List.lookup_cons]
  by_cases hf : f = n
  ·subst hf
   simp only [beq_self_eq_true] at h ⊢
   cases h
   exact ⟨_, rfl, h1⟩
  ·have hb : (f == n) = false := beq_eq_false_iff_ne.mpr hf
   have hb2 : (Str.ofString f == Str.ofString n) = false := beq_eq_false_iff_ne.mpr fun z => hf (nW z)
   rw [hb] at h
   rw [hb2]
   exact yU e2 h2 h
theorem lookup_none {f : String} : ∀ {ns : List String} {fs : List (Str × V)}, fs.map (·.1) = ns.map Str.ofString -> f ∉ ns -> fs.lookup (Str.ofString f) = none
 | [], fs, e, _ => by cases fs with | nil => rfl | cons _ _ => simp at e
 | n :: ns, [], e, _ => rfl
 | n :: ns, (g, w) :: fs, e, h => by
  rw [List.map_cons, List.map_cons] at e
  injection e with e1 e2
  have e1' : g = Str.ofString n := e1
  subst e1'
  rw [List.lookup_cons]
  have hb2 : (Str.ofString f == Str.ofString n) = false := beq_eq_false_iff_ne.mpr fun z => h (by rw [nW z]; exact List.mem_cons_self)
  rw [hb2]
  exact lookup_none e2 fun z => h (List.mem_cons_of_mem _ z)
theorem aDl {f : String} {v : V} : ∀ {ns : List String} {fs : List (Str × V)}, fs.map (·.1) = ns.map Str.ofString -> f ∉ ns -> oJ (Str.ofString f) v fs = fs ++ [(Str.ofString f, v)]
 | [], fs, e, _ => by cases fs with | nil => rfl | cons _ _ => simp at e
 | n :: ns, [], e, _ => by simp at e
 | n :: ns, (g, w) :: fs, e, h => by
  rw [List.map_cons, List.map_cons] at e
  injection e with e1 e2
  have e1' : g = Str.ofString n := e1
  subst e1'
  unfold oJ
  rw [if_neg (fun z => h (by rw [nW z]; exact List.mem_cons_self)), aDl e2 fun z => h (List.mem_cons_of_mem _ z)]
  rfl
end
section
variable {X : Cx} {B : List Addr} {a b e o : Expr} {f g : Ex} {pos : Pos}
theorem iY.ins {K : PySem.W.Frag} {A : List Addr} {H : Hp} {c : String} {ns : List String} {ds : List D} {v : V} (h : iY K A H (.ins c ns ds) v) : ∃ p C dx fs, v = .ref p /\ H p = some (.ins C dx fs) /\ PySem.W.nsIn K mainGlobals (Str.ofString c) = some (some (.ref C)) /\ fs.map (·.1) = ns.map Str.ofString /\ aW K (hide A H) ds (fs.map (·.2)) := by
 rcases h with h | ⟨p, kk, o, ds', vs, e, e2, h, ko, r⟩
 ·obtain ⟨p, C, dx, fs, vs, e, q1, q2, q3, q4, r⟩ := aGa.mp h
  subst q4
  exact ⟨p, C, dx, fs, e, aX _ _ _ _ q1, q2, q3, r⟩
 ·cases kk <;> cases e
  obtain ⟨_, C, dx, fs, rfl, q2, q3, rfl⟩ := ko
  exact ⟨p, C, dx, fs, e2, h, q2, q3, r⟩
theorem nG {c f' : String} {C : Addr} (hc : ClsAt X.K c C) (hn : cX X.K C (Str.ofString f')) (ho : PE X o (tP X.K B f)) (hb : attributeBase o (Str.ofString f') X.env (eval o X.env) = eval o X.env := by rfl) :
  PE X (.Attribute o (Str.ofString f') pos) (tI X.K B (e1 (iJ c f') f)) := by
 refine cH (aPo ho hb) ?_
 rintro σ H Q ⟨A, st, d, rs, hd, q⟩
 obtain ⟨x, hx, h2⟩ := R.ok_of hd
 refine ⟨A, st, x, rs, hx, fun v H1 s1 r1 => ?_⟩
 cases x <;> first | (cases h2; done) | skip
 obtain ⟨e1, h3⟩ := aJ h2
 subst e1
 obtain ⟨p, C', dx, fs, e2, h4, h5, h6, h7⟩ := r1.ins
 have : C' = C := by have z := h5.symm.trans hc.ns; injection z with z; injection z with z; injection z
 subst this
 obtain ⟨w, h8, h9⟩ := yU h6 h7 (rM h3)
 exact ⟨p, C', dx, fs, w, e2, h4, hc.cl, hn, h8, q w H1 s1 h9⟩
structure MethOk (P : Program) (w : World) (K : PySem.W.Frag) (mg : Str -> Option Value) (base : Heap) (c m : String) (k np : Nat) (dv : List D) (p : List D -> R D) : Prop where
 ex : ∃ (C fa : Addr) (fd : FuncData) (ps : List Str) (dvs : List V) (ds : List Value), ClsAt K c C /\ Meth K C (Str.ofString m) fa /\ FnOk P w K mg base CX0 k fa fd ps (spI K np p) /\ Binds K fd ps ds /\ Vals dvs ds /\ ∀ H, aW K H dv dvs
 len : ∀ ds d, p ds = .ok d -> ds.length = np
theorem aF5 {c m : String} {k j np : Nat} {dv : List D} {p : List D -> R D} {es : List Expr} {r : Exs} {apos : Pos} {pl : Sem Bool} (h : MethOk X.prog X.w X.K X.mg X.base c m k np dv p) (hr : Room j X.A) (hk : k <= j) (ho : PE X o (tI X.K B f)) (ha : PA X (e :: es) (tA X.K B r))
  (hst : starEach (e :: es) X.env = (false, eval e X.env) :: starEach es X.env := by rfl) (hpl : (backTo pos (starEach es X.env)).any (·.1) = false := by rfl)
  (ht : eval (.Call (.Attribute o (Str.ofString m) apos) (e :: es) [] pos) X.env = (do
   let ov <- eval o X.env
   standAt apos.atName
   let (f, first) <- holding [ov] (getMethod ov (Str.ofString m) pl)
   callWith pos f first (backTo pos (starEach (e :: es) X.env)) (backToKw pos (keywordEach [] X.env))) := by rfl) :
  PE X (.Call (.Attribute o (Str.ofString m) apos) (e :: es) [] pos) (tI X.K B (pB c m p dv f r)) := by
 obtain ⟨C, fa, fd, ps, dvs, ds, hc, hm, F, bd, vd, rd⟩ := h.ex
 refine cH (aFi (pl := pl) ho hc.cl hm F (hr.mono hk) bd vd zV ha hst hpl ht) ?_
 rintro σ H Q ⟨A, st, d, rs, hd, q⟩
 obtain ⟨x, hx, h2⟩ := R.ok_of hd
 obtain ⟨xs, hxs, h3⟩ := R.ok_of h2
 refine ⟨A, st, x, rs, hx, fun v H1 s1 r1 => ?_⟩
 cases x <;> first | (cases h3; done) | skip
 obtain ⟨⟨e1, hn⟩, h4⟩ := aJ h3
 subst e1
 obtain ⟨p', C', dx, fs, e2, h5, h6, h7, h8⟩ := iY.ins (.inl r1)
 have : C' = C := by have z := h6.symm.trans hc.ns; injection z with z; injection z with z; injection z
 subst this
 refine ⟨p', dx, fs, e2, h5, lookup_none h7 hn, A, st, xs, rs.mono s1, hxs, fun vs H2 s2 r2 => ?_⟩
 exact ⟨A ++ B, _, d, rs.own.mono (s1.trans s2), .cons (r1.mono (aP.hide s2)) (r2.append (rd _)), h.len _ _ h4, h4, fun w H' s' r' => q w H' (s1.trans (s2.trans s')) r'⟩
def spM (K : PySem.W.Frag) (c : String) (np : Nat) (p : List D -> R D) : Sp := fun vs H Q _ => ∃ x ws A C dx ds d, vs = .ref x :: ws /\ H x = some (.ins C dx []) /\ PySem.W.nsIn K mainGlobals (Str.ofString c) = some (some (.ref C)) /\ Own A H /\ x ∉ A /\ aW K (hide (x :: A) H) ds ws /\ ds.length = np /\ p ds = .ok d /\
 ∀ H', aP (hide [x] H) H' -> Rep K (hide A H') d (.ref x) -> Q .non H'
structure MakeOk (P : Program) (w : World) (K : PySem.W.Frag) (mg : Str -> Option Value) (base : Heap) (c : String) (k np : Nat) (p : List D -> R D) : Prop where
 ex : ∃ (C fa : Addr) (fd : FuncData) (ps : List Str), ClsAt K c C /\ Mk K C fa /\ FnOk P w K mg base CX0 k fa fd ps (spM K c np p) /\ Binds K fd ps [] /\ mg (Str.ofString c) = some (.ref C)
 len : ∀ ds d, p ds = .ok d -> ds.length = np
theorem aL2 {c : String} {k j np : Nat} {p : List D -> R D} {es : List Expr} {r : Exs} {p0 : Pos} (h : MakeOk X.prog X.w X.K X.mg X.base c k np p) (hr : Room j X.A) (hk : k + 1 <= j) (ha : PA X (e :: es) (tA X.K B r)) (hg : Gl X (Str.ofString c) := by rfl) (hdb : (Str.ofString c == ("__debug__" : Str)) = false := by decide)
  (he : starEach (e :: es) X.env = (false, eval e X.env) :: starEach es X.env := by rfl) (hpl : (backTo pos (starEach es X.env)).any (·.1) = false := by rfl) : PE X (.Call (.Name (Str.ofString c) p0) (e :: es) [] pos) (tI X.K B (bN p r)) := by
 obtain ⟨C, fa, fd, ps, hc, M, F, bd, hm⟩ := h.ex
 refine cH (aLy M F (hr.mono hk) hg hm bd .nil zV ha hdb he hpl) ?_
 rintro σ H Q ⟨A, st, d, rs, hd, q⟩
 obtain ⟨xs, hx, h2⟩ := R.ok_of hd
 refine ⟨A, st, xs, rs, hx, fun vs H1 s1 r1 x dx hx0 hdx hne => ?_⟩
 have w1 := rs.own.mono s1
 have hxA : x ∉ A ++ B := w1.free hx0
 have e0 : ∀ b u, H1 b = some u -> upd (upd H1 dx (.own x)) x (.ins C dx []) b = some u := fun b u z => by
  rw [bG (aU z hx0), bG (aU z hdx)]; exact z
 refine ⟨x, vs ++ [], A ++ B, C, dx, xs, d, rfl, bV, hc.ns, fun b hb => ?_, hxA, ?_, h.len _ _ h2, h2, fun H' sm rd => ⟨rfl, q _ H' (fun b u z => ?_) rd⟩⟩
 ·obtain ⟨u, z⟩ := Option.isSome_iff_exists.mp (w1 b hb)
  rw [e0 b u z]; rfl
 ·rw [List.append_nil]
  refine r1.mono fun b u z => ?_
  have z1 := aX _ _ _ _ z
  have hb : b ∉ A ++ B := fun y => by rw [dY y] at z; cases z
  rw [bO (fun y => (List.mem_cons.mp y).elim (aU z1 hx0) hb)]
  exact e0 b u z1
 ·have z1 := s1 _ _ z
  exact sm b u (by rw [bO (by simpa using aU z1 hx0)]; exact e0 b u z1)
theorem aI2 {K : PySem.W.Frag} {A : List Addr} {H : Hp} {N : List Str} {ds : List D} {ws : List V} {x C dx : Addr} {c : String} (w : Own A H) (hxA : x ∉ A) (hx : H x = some (.ins C dx [])) (hns : PySem.W.nsIn K mainGlobals (Str.ofString c) = some (some (.ref C))) (r : aW K (hide (x :: A) H) ds ws) :
  RS K A [x] H (some (Sl.o (.i x c []) []) :: (ds.map (fun d => some (Sl.v d)) ++ List.replicate (N.length - ds.length - 1) none)) (L2.start N (.ref x :: ws)) := by
 have hl := r.length
 have sh : L2.start N (.ref x :: ws) = some (.ref x) :: (ws.map some ++ List.replicate (N.length - ds.length - 1) none) := by
  unfold L2.start
  rw [List.map_cons, List.cons_append, List.length_cons, hl]
  congr 2
 rw [sh]
 have nov : ∀ (i : Nat) (s : Sl), (ds.map (fun d => some (Sl.v d)) ++ List.replicate (N.length - ds.length - 1) none)[i]? = some (some s) -> ∃ d, ds[i]? = some d /\ s = .v d := fun i s e => by
  by_cases hi : i < ds.length
  ·rw [List.getElem?_append_left (by simpa using hi), List.getElem?_map, List.getElem?_eq_getElem hi] at e
   simp at e
   exact ⟨ds[i], List.getElem?_eq_getElem hi, e.symm⟩
  ·rw [List.getElem?_append_right (by simpa using hi), List.getElem?_replicate] at e
   split at e <;> simp at e
 refine ⟨by simp [hl], fun b hb => ?_, fun b hb => by rw [List.mem_singleton.mp hb]; exact hxA, fun i d e => ?_, fun i k xs e => ?_⟩
 ·rcases List.mem_append.mp hb with hb | hb
  ·rw [List.mem_singleton.mp hb, hx]; rfl
  ·exact w b hb
 ·cases i with
  | zero => simp at e
  | succ i =>
   rw [List.getElem?_cons_succ] at e
   obtain ⟨d', e1, e2⟩ := nov i _ e
   cases e2
   obtain ⟨v, hv, rv⟩ := r.get e1
   refine ⟨v, ?_, rv⟩
   have hi : i < ws.length := (List.getElem?_eq_some_iff.mp hv).1
   rw [List.getElem?_cons_succ, List.getElem?_append_left (by simpa using hi), List.getElem?_map, hv]
   rfl
 ·cases i with
  | zero =>
   simp at e
   obtain ⟨rfl, rfl⟩ := e
   refine ⟨x, _, [], rfl, List.mem_singleton.mpr rfl, hx, ⟨rfl, C, dx, [], rfl, hns, rfl, rfl⟩, .nil, fun j k' ys ej _ => ?_⟩
   cases j with
   | zero => rfl
   | succ j =>
    rw [List.getElem?_cons_succ] at ej
    obtain ⟨_, _, e2⟩ := nov j _ ej
    cases e2
  | succ i =>
   rw [List.getElem?_cons_succ] at e
   obtain ⟨_, _, e2⟩ := nov i _ e
   cases e2
theorem aNj {P : Program} {w : World} {K : PySem.W.Frag} {mg : Str -> Option Value} {base : Heap} {x qual : Str} {st : Stmt} {f : Addr} {fd : FuncData} {N ps : List Str} {k : Nat} (F : Fun K x qual st f fd) (S : FnScope N ps (aF st)) (c : String) (np n : Nat) (bd : Bd) (hnp : ps.length = np + 1) (hn : N.length = n)
  (hb : ∀ (cdv : Value) (A : Around) (outer : List Env) (s : Shared) (H : Hp) (E : XK) (B : List Addr), Room k (A.deeper (envOfC qual (aF st) s.heap.objs.size f cdv)) ->
   PSs (rZ CX0 P w K mg base N qual (aF st) f cdv A outer s H E).nox (bD st) (tS K B bd)) : FnOk P w K mg base CX0 (k + 1) f fd ps (spM K c np (aBi c np n bd)) := by
 refine F.ok S (fun vs H Q E h => ?_) (fun cdv A outer s H vs Q E hr h => ?_)
 ·obtain ⟨y, ws, A, C, dx, ds, d, rfl, _, _, _, _, r, hl, _⟩ := h
  rw [List.length_cons, r.length, hl, hnp]
 ·obtain ⟨y, ws, A', C, dx, ds, d, rfl, hy, hns, own, hyA, r, hl, hp, q⟩ := h
  refine ⟨tS K A' bd, hb cdv A outer s H E A' hr, ?_⟩
  obtain ⟨_, h2⟩ := aJ (aFn hp y)
  obtain ⟨fl, hfl, h3⟩ := R.ok_of h2
  have rs := aI2 (N := N) (c := c) own hyA hy hns r
  rw [hl, hn] at rs
  refine ⟨[y], _, fl, rs, hfl, ?_⟩
  cases fl with
  | nx s1 =>
   intro A1 σ1 H1 l rs1
   have h3' : (match (s1[0]? : Option (Option Sl)) with | some (some (.o (.i y' c' ns) xs)) => aH (y' = y) (R.ok (D.ins c' ns xs)) | _ => .bad) = .ok d := h3
   split at h3'
   ·rename_i y' c' ns xs e1
    obtain ⟨rfl, h4⟩ := aJ h3'
    cases h4
    obtain ⟨a, o, vs, e2, m, h5, ko, r5, _⟩ := rs1.lst 0 _ _ e1
    have ea : a = y' := ko.1
    subst ea
    refine q H1 (aP.trans (show aP (hide [a] H) (hide A1 H1) from l) (aX _ _)) ?_
    have := ko.rep (H := hide A' H1) (ds := xs) (by rw [bO (rs1.dis a m)]; exact h5) (r5.mono (dI fun b hb => List.mem_append_right _ hb))
    exact this
   ·cases h3'
  | rt d' => cases h3
  | bk s1 => cases h3
  | ct s1 => cases h3
theorem aL3 {c : String} {np n : Nat} {bd : Bd} (ds : List D) (d : D) (h : aBi c np n bd ds = .ok d) : ds.length = np := (aJ (aFn h 0)).1
theorem aC6 (i : Nat) {x : Str} {c f' : String} {C : Addr} {p1 p2 : Pos} {value : Expr} (hc : ClsAt X.K c C) (hn : cX X.K C (Str.ofString f')) (he : PE X value (tI X.K B f)) (hN : X.N[i]? = some x := by rfl) (hv : Vis X.env.scope x := by first | exact Or.inl rfl | exact Or.inr (Or.inl rfl) | exact Or.inr (Or.inr rfl)) (hd : (x == ("__debug__" : Str)) = false := by decide)
  (hcd : (x == ("__classdict__" : Str)) = false := by decide) (hs : swapsWith value (some (.Attribute (.Name x p1) (Str.ofString f') p2)) pos.line X.env = pure false := by rfl) :
  PS X (.Assign [.Attribute (.Name x p1) (Str.ofString f') p2] value pos) (tS X.K B (aA4 i c f' f)) := by
 refine dU (aPp (oU hN hv hd hcd) he hs) ?_
 rintro Dn σ H ⟨A, st, r, rs, hr, p⟩
 obtain ⟨d, hd, h3⟩ := R.ok_of hr
 split at h3
 ·rename_i n c' ns xs e1
  obtain ⟨⟨ec, hf, hlen⟩, h4⟩ := aJ h3
  subst ec
  cases h4
  obtain ⟨l, o, vs, e2, m, h1, ko, q, u⟩ := rs.lst i _ _ e1
  obtain ⟨el, C', dx, fs, rfl, k1, k2, rfl⟩ := ko
  have : C' = C := by have z := k1.symm.trans hc.ns; injection z with z; injection z with z; injection z
  subst this
  refine ⟨A, st, d, rs, hd, fun y H1 s1 r1 => ⟨.ref l, e2, l, C', dx, fs, rfl, s1 _ _ h1, hc.cl, hn, ?_, ?_⟩⟩
  ·have := congrArg List.length k2
   rw [List.length_map, List.length_map] at this
   omega
  ·rw [aDl k2 hf]
   obtain ⟨w1, w2⟩ := (rs.mono s1).write e1 e2 (k1 := .i n c' (ns ++ [f'])) (o' := .ins C' dx (fs ++ [(Str.ofString f', y)])) (ds := xs ++ [d]) (vs' := fs.map (·.2) ++ [y]) ⟨el, C', dx, _, rfl, k1, by rw [List.map_append, List.map_append, k2]; rfl, by rw [List.map_append]; rfl⟩ ((q.mono (aP.hide s1)).append (.cons r1 .nil))
   exact p A _ _ ((Le.of s1).trans w2) w1
 ·cases h3
theorem aGn {sm : Stmt} : PS X sm (tS X.K B aEf) := fun _ _ _ _ _ _ ⟨_, _, _, _, h, _⟩ => nomatch h
end
end Pu
namespace Pu
open PySem PySem.Spec PyProof.Rows L2
section
variable {X : Cx} {B : List Addr} {scope : Scope} {elt tg iter c : Expr} {pos : Pos} {t : Tg} {it : ItE} {f u : Ex}
theorem aI3 {pins : List (Addr × Obj)} {σ τ : LSt} {H3 H5 : Hp} {s3 s5 : Shared} {fp : List Addr} {C p : Addr} {m5 : Str -> Option Value} {i : Nat} {x : Str} {px : Pos} {Qf : Value -> Shared -> Prop} (hN : X.N.Nodup) (hi : X.N[i]? = some x) (hx : Loc X.env.scope x)
  (hf : X.fn x = true \/ X.env.scope.names.lookup x = some .local) (hC : s3.heap.objs.size <= C) (I3 : Inv X pins σ H3 s3) (hfp : ∀ b ∈ fp, rY X pins H3 b) (I5 : Inv (cL X scope C s3 H3 fp) [] τ H5 s5) (hn5 : s5.heap.Ns C m5)
  (hQ : ∀ s', Inv X pins (σ.set i (some (.ref p))) H5 s' -> Qf .none s') : compPost (model X.prog X.w) X.A X.xe (some (assign (.Name x px) X.env)) Qf (.ref p) C (.ok .next) s5 := by
 have I5' : Inv X pins σ H5 { s5 with heap := s5.heap } := wV I3 hfp hC I5 (.refl ..)
 have lt : ∀ b o, s3.heap.get? b = some o -> C ≠ b := fun b o e z => Nat.lt_irrefl _ (Nat.lt_of_lt_of_le (Heap.lt_size (z ▸ e)) hC)
 have hL : C ≠ X.env.locals := fun z => Nat.lt_irrefl _ (Nat.lt_of_lt_of_le (z ▸ I3.lt) hC)
 have hc : ∀ y c, X.env.cells.lookup y = some c -> c ≠ C := fun y c e => by
  obtain ⟨v, o, ho, _⟩ := I3.cell y c e
  exact (lt c o ho).symm
 have hp : ∀ q ∈ X.pn ++ pins, q.1 ≠ C := fun q hq => (lt q.1 q.2 (I3.pin q hq).1).symm
 show wpAny _ X.A (assign (.Name x px) X.env (.ref p)) _ _ _
 refine wpAny_assign_Name (zP (v := .ref p) I5' hN hi hx rfl (fun s6 I6 ⟨a, hs, ha⟩ => ?_) hf)
 have hCa : C ≠ a := by
  rcases ha with z | z
  ·rw [z]; exact hL
  ·exact (hc x a z).symm
 refine ⟨m5, hn5.sameBut hs hCa, fun h' hs' => hQ _ ?_⟩
 exact I6.turned (t' := s6.toks) (fun b o hb e => (hs'.2 b hb).trans e) (show H5 C = none from I5.free) hL (.inr (Nat.le_trans I3.sz hC)) hc hp
theorem aC7 (i : Nat) {x : Str} {px spos : Pos} (is : List Nat) (hsub : yO is t) (S : CScope X scope is) (hi : L2.PI X tg iter (tIt X.K B it)) (hg : ∀ (B : List Addr) (C : Addr) (s₀ : Shared) (H₀ : Hp) (fp : List Addr), PG (cL X scope C s₀ H₀ fp) tg (tG X.K B t))
  (he : ∀ (B : List Addr) (C : Addr) (s₀ : Shared) (H₀ : Hp) (fp : List Addr), PE (cL X scope C s₀ H₀ fp) elt (tI X.K B f)) (hc : X.calm = true) (hN : X.N.Nodup) (hi' : X.N[i]? = some x := by rfl) (hx : Loc X.env.scope x := by first | exact Or.inl rfl | exact Or.inr rfl)
  (hsw : swapsWith (.ListComp elt [⟨tg, iter, [], 0⟩] scope pos) (some (.Name x px)) spos.line X.env = pure true := by rfl)
  (hf : X.fn x = true \/ X.env.scope.names.lookup x = some .local := by first | exact .inl rfl | exact .inr rfl | assumption) (hs : ∀ x, foldedSetIterable iter X.env x = pure x := by intro _; rfl) :
  PS X (.Assign [.Name x px] (.ListComp elt [⟨tg, iter, [], 0⟩] scope pos) spos) (tS X.K B (eO i (cD is t it cB f))) := by
 intro pins s σ H Dn I h
 obtain ⟨A, st, r, rs, hr, q⟩ := h
 obtain ⟨d, hd, h3⟩ := R.ok_of hr
 cases h3
 obtain ⟨xs, hx', h2⟩ := R.ok_of hd
 obtain ⟨hl, h3⟩ := aJ h2
 obtain ⟨ys, hy, h4⟩ := R.ok_of h3
 cases h4
 rw [exec_Assign_Name_used _ _ _ _ hsw]
 refine wpAny_bind (wpAny_standAt (wpAny_bind ?_))
 show wpAny _ X.A (do let _ <- comprehension (.ListComp elt [⟨tg, iter, [], 0⟩] scope pos) scope X.env _ (newList []) false (eval iter X.env) (some (assign (.Name x px) X.env))) _ _ s
 refine wpAny_bind (wpAny_mono (Q := fun _ s' => SP X pins Dn .next s') ?_ (fun _ s' hq => wpAny_pure (wpAny_pure hq)) fun _ _ e => e)
 refine pZ (use := some (assign (.Name x px) X.env)) (Qf := fun _ s' => SP X pins Dn .next s') (Q := fun v H' => Dn.nx (σ.set i (some v)) H') (tt := wW) (te := tIx X.K f) (rest := fun env it p => eval elt env >>= fun x => call (.builtin "list.append") [p, x] >>= fun _ => again (.compLoop (.ListComp elt [⟨tg, iter, [], 0⟩] scope pos) 0 it p env)) S hc hi (fun C s₀ H₀ fp => aNb fun B => hg B C s₀ H₀ fp) (fun _ _ _ => nU)
  (fun C s₀ H₀ fp it p s Q h => aRh (Y := cL X scope C s₀ H₀ fp) h) (fun C s₀ H₀ fp it p τ H s pins vs N Q I h q => aKr (Y := cL X scope C s₀ H₀ fp) rfl (aNa fun B => he B C s₀ H₀ fp) τ H s pins vs N Q I h (fun Q Q' m h => tZ Q Q' m h) q) hs I
  (aGi hsub (fun τ H Q ⟨B, A, st, k, rs, hk, q⟩ => ?_) rs hx' hl hy fun p vs H1 H' s1 hp s2 hv r => aF2 (Q := fun v H' => Dn.nx (σ.set i (some v)) H') rs (fun v H' sm rv => q A _ H' (Le.of sm) ((rs.mono sm).set i rv)) s1 hp s2 hv r) fun C p H5 s5 m5 s3 H3 fp τ hC I3 hfp I5 hn5 q5 => aI3 hN hi' hx hf hC I3 hfp I5 hn5 fun s' I' => ⟨_, _, I', q5⟩
 cases hk
 exact q H (aP.refl _)
end
end Pu
namespace Pu
open PySem PySem.Spec PyProof.Rows L2
structure FunD (K : PySem.W.Frag) (x qual : Str) (st : Stmt) (dV : Value) (f : Addr) (fd : FuncData) : Prop where
 ex : ∃ (oc : Value) (od : Option Addr) (kV doc pm : Value) (an : Option Addr) (cdv ct : Value) (osl : Array (Option Value)),
  fd = PySem.W.fnOf x qual (bR st) (bD st) (aF st) dV kV doc pm an cdv ct /\ K.lookup f = some ⟨oc, od, .func fd, osl⟩ /\ PySem.W.codeIn K cdv qual = true
 kp : PySem.W.keepIn K (.ref f) = true
section
variable {P : Program} {w : World} {K : PySem.W.Frag} {mg : Str -> Option Value} {base : Heap} {x qual : Str} {st : Stmt} {dV : Value} {f : Addr} {fd : FuncData} {N ps : List Str} {k : Nat}
theorem cQ {oc : Value} {od an : Option Addr} {osl : Array (Option Value)} {kV doc pm cdv ct : Value} (l : K.lookup f = some ⟨oc, od, .func (PySem.W.fnOf x qual (bR st) (bD st) (aF st) dV kV doc pm an cdv ct), osl⟩)
  (c : PySem.W.codeIn K cdv qual = true) (k : PySem.W.keepIn K (.ref f) = true) : FunD K x qual st dV f (PySem.W.fnOf x qual (bR st) (bD st) (aF st) dV kV doc pm an cdv ct) := ⟨⟨oc, od, kV, doc, pm, an, cdv, ct, osl, rfl, l, c⟩, k⟩
theorem FunD.binds0 (F : FunD K x qual st .none f fd)
  (h : ∀ (kV doc pm : Value) (an : Option Addr) (cdv ct : Value) (us : List Value), us.length = ps.length -> bindArgs (PySem.W.fnOf x qual (bR st) (bD st) (aF st) .none kV doc pm an cdv ct) ⟨us, []⟩ = pure (ps.zip us)) : Binds K fd ps [] := by
 obtain ⟨oc, od, kV, doc, pm, an, cdv, ct, osl, rfl, lk, hcd⟩ := F.ex
 exact .all (h kV doc pm an cdv ct)
theorem FunD.binds {T : Addr} {o : Obj} {items : Array Value} {n m : Nat} {ds : List Value} (F : FunD K x qual st (.ref T) f fd) (hT : K.lookup T = some o) (hd : o.data = .seq items n) (hm : m + ds.length = ps.length)
  (h : ∀ (kV doc pm : Value) (an : Option Addr) (cdv ct : Value) (us : List Value), us.length = m -> ∃ k : Option (Array Value) -> Sem (List (Str × Value)), bindArgs (PySem.W.fnOf x qual (bR st) (bD st) (aF st) (.ref T) kV doc pm an cdv ct) ⟨us, []⟩ = seqItems? (.ref T) >>= k /\ k (some items) = pure (ps.zip (us ++ ds))) : Binds K fd ps ds := by
 obtain ⟨oc, od, kV, doc, pm, an, cdv, ct, osl, rfl, lk, hcd⟩ := F.ex
 intro s us KX hl
 obtain ⟨k, h1, h2⟩ := h kV doc pm an cdv ct us (by rw [List.length_append] at hl; omega)
 exact .of_defaults rfl (KX _ _ hT) hd h1 h2
theorem FunD.okX {sp : Sp} (F : FunD K x qual st dV f fd) (S : FnScope N ps (aF st)) (len : ∀ vs H Q E, sp vs H Q E -> vs.length = ps.length)
  (hbody : ∀ (cdv : Value) (A : Around) (outer : List Env) (s : Shared) (H : Hp) (vs : List V) (Q : VK) (E : XK), Room k (A.deeper (envOfC qual (aF st) s.heap.objs.size f cdv)) -> sp vs H Q E ->
   ∃ t, PSs (rZ CX0 P w K mg base N qual (aF st) f cdv A outer s H E).nox (bD st) t /\ t { nx := fun _ H' => Q .non H', rt := Q } (L2.start N vs) H) : FnOk P w K mg base CX0 (k + 1) f fd ps sp := by
 obtain ⟨oc, od, kV, doc, pm, an, cdv, ct, osl, rfl, lk, hcd⟩ := F.ex
 refine aIz lk hcd S len fun A outer s H vs Q E hr hsp => ?_
 obtain ⟨t, h, q⟩ := hbody cdv A outer s H vs Q E hr hsp
 exact ⟨t, h.nox, q⟩
theorem iU (F : FunD K x qual st dV f fd) (S : FnScope N ps (aF st)) (np n : Nat) (bd : Bd) (hnp : ps.length = np) (hn : N.length = n)
  (hb : ∀ (cdv : Value) (A : Around) (outer : List Env) (s : Shared) (H : Hp) (E : XK) (B : List Addr), Room k (A.deeper (envOfC qual (aF st) s.heap.objs.size f cdv)) ->
   PSs (rZ CX0 P w K mg base N qual (aF st) f cdv A outer s H E).nox (bD st) (tS K B bd)) : FnOk P w K mg base CX0 (k + 1) f fd ps (spI K np (eN np n bd)) := by
 refine F.okX S (fun vs H Q E h => ?_) (fun cdv A outer s H vs Q E hr h => ?_)
 ·obtain ⟨A, ds, d, own, r, hl, _⟩ := h
  rw [r.length, hl, hnp]
 ·obtain ⟨B, ds, d, own, r, hl, hp, q⟩ := h
  refine ⟨tS K B bd, hb cdv A outer s H E B hr, ?_⟩
  obtain ⟨_, h2⟩ := aJ hp
  obtain ⟨fl, hfl, h3⟩ := R.ok_of h2
  have rs := tY (N := N) own r
  rw [hl, hn] at rs
  refine ⟨[], _, fl, rs, hfl, ?_⟩
  have fin : ∀ {A' : List Addr} {H' : Hp}, Le [] H A' H' -> aP H H' := fun {A' H'} l => by
   unfold Le at l
   rw [lM] at l
   exact l.trans (aX _ _)
  cases fl with
  | nx s1 =>
   cases h3
   exact fun A' σ' H' l rs' => q _ H' (fin l) (bU.mpr rfl)
  | rt d' =>
   cases h3
   exact fun A' v H' l rv => q v H' (fin l) (rv.mono (dI fun a ha => List.mem_append_right _ ha))
  | bk s1 => exact nomatch h3
  | ct s1 => exact nomatch h3
end
end Pu
namespace Pu
open PySem PySem.Spec PyProof.Rows L2 PySem.SeqAt
section
variable {X : Cx} {B : List Addr} {a b e o : Expr} {f g : Ex} {pos : Pos} {r : Exs} {es : List Expr} {apos cpos : Pos}
theorem aF6 : jV X (.type "list") (fun vs H Q => ∃ l xs, vs = [.ref l] /\ (SqL X.K H l xs \/ SqT X.K H l xs) /\ ∀ n, H n = none -> Q (.ref n) (upd H n (.lst xs))) := by
 intro pins s σ H vs us Q I r h
 obtain ⟨l, xs, rfl, hl, q⟩ := h
 obtain ⟨u, rfl, ru⟩ := r.one
 obtain rfl : u = Value.ref l := ru
 rcases hl with hl | hl
 ·obtain ⟨its, rv, ⟨ob, n, e, hc, _, hd⟩, hz⟩ := I.list hl
  refine call_list_seq l (T := "list") (.inl rfl) e hc hd (fun h' c' k hn => ?_) (by rw [rv.length] at hz; simpa using hz)
  exact ⟨.ref s.heap.objs.size, _, I.laid (o := .lst xs) (t' := s.toks) k (Nat.le_refl _) ⟨hz, its, c', rv, hn⟩, rfl, q _ (I.hok.fresh (Nat.le_refl _))⟩
 ·obtain ⟨its, rv, ⟨ob, e, hc, n, hd⟩, hz⟩ := I.tuple hl
  refine call_list_seq l (T := "tuple") (.inr rfl) e hc hd (fun h' c' k hn => ?_) (by rw [rv.length] at hz; simpa using hz)
  exact ⟨.ref s.heap.objs.size, _, I.laid (o := .lst xs) (t' := s.toks) k (Nat.le_refl _) ⟨hz, its, c', rv, hn⟩, rfl, q _ (I.hok.fresh (Nat.le_refl _))⟩
theorem aC8 {p0 : Pos} (hm : X.mg "list" = none) (ha : PE X a (tP X.K B f)) (hg : Gl X "list" := by rfl) (hs : starEach [a] X.env = (false, eval a X.env) :: starEach [] X.env := by rfl) : PE X (.Call (.Name "list" p0) [a] [] pos) (tI X.K B (e1 xO f)) := by
 refine cH (uK aF6 hg hm (by rfl) (cW ha fK hs) (he := hs)) ?_
 rintro σ H Q ⟨A, st, d, rs, hd, q⟩
 obtain ⟨x, hx, h2⟩ := R.ok_of hd
 refine ⟨A, st, x, rs, hx, fun v H1 s1 r1 => ?_⟩
 cases x <;> first | (cases h2; done) | skip
 ·cases h2
  obtain ⟨l, vs, e, h3, r3⟩ := r1.tup
  exact ⟨l, vs, by rw [e], .inr h3, fun n hn => q _ _ (s1.trans (cI hn)) (gZ (rs.own.mono s1) hn r3)⟩
 ·cases h2
  obtain ⟨l, vs, e, h3, r3⟩ := r1.lst
  exact ⟨l, vs, by rw [e], .inl h3, fun n hn => q _ _ (s1.trans (cI hn)) (gZ (rs.own.mono s1) hn r3)⟩
theorem aGo : ∀ {l : List Bool} {us : List Value}, Vals (l.map V.bl) us -> us = l.map Value.bool
 | [], _, .nil => rfl
 | b :: l, _, .cons r t => by
  rw [aGo t]
  cases r
  rfl
theorem aI4 (hc : X.calm = true) : jV X (.builtin "all") (fun vs H Q => ∃ (l : Addr) (bs : List Bool), vs = [.ref l] /\ SqL X.K H l (bs.map V.bl) /\ Q (.bl (bs.all id)) H) := by
 intro pins s σ H vs us Q I r h
 obtain ⟨l, bs, rfl, hl, q⟩ := h
 obtain ⟨u, rfl, ru⟩ := r.one
 obtain rfl : u = Value.ref l := ru
 obtain ⟨its, rv, ⟨ob, n, e, hcl, _, hd⟩, hz⟩ := I.list hl
 have ei := aGo rv
 have isl : s.heap.IsList l its.toArray := ⟨ob, e, hcl, n, hd⟩
 have hlt : l < s.heap.objs.size := Heap.lt_size e
 refine call_all_walk (wpAny_pyIter_list isl ⟨s.heap.objs.size, _, _, _, _, _, fun i => bs[i]?.getD false, rfl, Walks.list (A := X.A.in1) (I.ok.hd hc) _ l (Nat.ne_of_lt hlt) its.toArray, ⟨⟨_, Heap.get?_push_size _ rfl, rfl, rfl⟩, isl.push _⟩, ?_, fun h' tk k => ?_⟩)
 ·intro i v s' Q' E' hv hq
  rw [ei] at hv
  simp only [List.getElem?_toArray, List.getElem?_map, Option.map_eq_some_iff] at hv
  obtain ⟨b, hb, rfl⟩ := hv
  have hq' : Q' (bs[i]?.getD false) s' := hq
  rw [hb] at hq'
  exact wpAny_pure hq'
 ·refine ⟨.bl (bs.all id), H, I.kept (fun b u z => k b u (fun hb => ?_) (Heap.get?_push_of_some _ z)), ?_, q⟩
  ·have := List.mem_singleton.mp hb
   exact Nat.lt_irrefl _ (this ▸ Heap.lt_size z)
  ·show Value.bool _ = Value.bool _
   congr 1
   rw [Bool.eq_iff_iff, List.all_eq_true, List.all_eq_true]
   have hsz : its.toArray.size = bs.length := by rw [ei]; simp
   rw [hsz]
   constructor
   ·intro h x hx
    obtain ⟨i, hi, rfl⟩ := List.mem_iff_getElem.mp hx
    have := h i (List.mem_range.mpr hi)
    rw [List.getElem?_eq_getElem hi] at this
    exact this
   ·intro h i hi
    have hi' := List.mem_range.mp hi
    rw [List.getElem?_eq_getElem hi']
    exact h _ (List.getElem_mem hi')
theorem aGp {K : PySem.W.Frag} {H : Hp} : ∀ {l : List Bool} {vs : List V}, aW K H (l.map D.bl) vs -> vs = l.map V.bl
 | [], vs, h => cC.mp h
 | b :: l, vs, h => by
  obtain ⟨v, r, rfl, h1, h2⟩ := bB.mp h
  rw [aGp h2, bA.mp h1]; rfl
theorem aGq {p0 : Pos} (hm : X.mg "all" = none) (hc : X.calm = true) (ha : PE X a (tP X.K B f)) (hg : Gl X "all" := by rfl) (hs : starEach [a] X.env = (false, eval a X.env) :: starEach [] X.env := by rfl) : PE X (.Call (.Name "all" p0) [a] [] pos) (tI X.K B (e1 wC f)) := by
 refine cH (mZ (aI4 hc) hg hm (by rfl) (cW ha fK hs) (he := hs)) ?_
 rintro σ H Q ⟨A, st, d, rs, hd, q⟩
 obtain ⟨x, hx, h2⟩ := R.ok_of hd
 refine ⟨A, st, x, rs, hx, fun v H1 s1 r1 => ?_⟩
 cases x <;> first | (cases h2; done) | skip
 obtain ⟨bs, h3, h4⟩ := R.ok_of h2
 cases h4
 obtain ⟨l, vs, e, h5, r5⟩ := r1.lst
 rw [aJi h3] at r5
 rw [aGp r5] at h5
 exact ⟨l, bs, by rw [e], h5, q _ H1 s1 (bA.mpr rfl)⟩
theorem aDm : ∀ {l : List Int} {us : List Value}, Vals (l.map V.int) us -> ∃ ps : List (Int × Tok), us = ps.map (fun p => Value.int p.1 p.2) /\ ps.map (·.1) = l
 | [], _, .nil => ⟨[], rfl, rfl⟩
 | b :: l, _, .cons r t => by
  obtain ⟨ps, e, e2⟩ := aDm t
  obtain ⟨t, rfl⟩ := r
  exact ⟨(b, t) :: ps, by rw [e]; rfl, by rw [List.map_cons, e2]⟩
theorem aDn {ps : List (Int × Tok)} {i : Nat} (hi : i < ps.length) : numAt ps.toArray i = (ps.map (·.1))[i]'(by simpa using hi) := by
 unfold numAt
 rw [List.getElem?_toArray, List.getElem?_eq_getElem hi]
 simp
theorem aI5 (hc : X.calm = true) : jV X (.builtin "max") (fun vs H Q => ∃ (l : Addr) (is : List Int), vs = [.ref l] /\ SqL X.K H l (is.map V.int) /\ 0 < is.length /\ Q (.int (zJ is)) H) := by
 intro pins s σ H vs us Q I r h
 obtain ⟨l, is, rfl, hl, hp, q⟩ := h
 obtain ⟨u, rfl, ru⟩ := r.one
 obtain rfl : u = Value.ref l := ru
 obtain ⟨its, rv, ⟨ob, n, e, hcl, _, hd⟩, hz⟩ := I.list hl
 obtain ⟨ps, ei, e2⟩ := aDm rv
 have hlen : ps.length = is.length := by rw [<- e2, List.length_map]
 have isl : s.heap.IsList l (intItems ps.toArray) := ⟨ob, e, hcl, n, by rw [hd, ei]; simp [intItems]⟩
 refine max_intList (I.ok.hd hc) isl (by simpa [hlen] using hp) fun v h' tk hv k => ?_
 obtain ⟨t, rfl⟩ := intItems_at hv
 refine ⟨.int (zJ is), H, I.kept k, ⟨t, ?_⟩, q⟩
 congr 1
 have hs : ps.toArray.size = ps.length := rfl
 rw [hs]
 obtain ⟨h1, h2⟩ := argBest_gt (numAt ps.toArray) (ps.length - 1)
 have hb : argBest (fun i j => decide (numAt ps.toArray i > numAt ps.toArray j)) (ps.length - 1) < ps.length := by omega
 refine (aFt ?_ fun x hx => ?_).symm
 ·rw [aDn hb, <- e2]
  exact List.getElem_mem _
 ·rw [<- e2] at hx
  obtain ⟨i, hi, rfl⟩ := List.mem_iff_getElem.mp hx
  have hi' : i < ps.length := by simpa using hi
  rw [<- aDn hi']
  exact h2 i (by omega)
theorem aDo {K : PySem.W.Frag} {H : Hp} : ∀ {l : List Int} {vs : List V}, aW K H (l.map D.int) vs -> vs = l.map V.int
 | [], vs, h => cC.mp h
 | b :: l, vs, h => by
  obtain ⟨v, r, rfl, h1, h2⟩ := bB.mp h
  rw [aDo h2, aN.mp h1]; rfl
theorem aUz {p0 : Pos} (hm : X.mg "max" = none) (hc : X.calm = true) (ha : PE X a (tP X.K B f)) (hg : Gl X "max" := by rfl) (hs : starEach [a] X.env = (false, eval a X.env) :: starEach [] X.env := by rfl) : PE X (.Call (.Name "max" p0) [a] [] pos) (tI X.K B (e1 aCs f)) := by
 refine cH (mZ (aI5 hc) hg hm (by rfl) (cW ha fK hs) (he := hs)) ?_
 rintro σ H Q ⟨A, st, d, rs, hd, q⟩
 obtain ⟨x, hx, h2⟩ := R.ok_of hd
 refine ⟨A, st, x, rs, hx, fun v H1 s1 r1 => ?_⟩
 cases x <;> first | (cases h2; done) | skip
 obtain ⟨is, h3, h4⟩ := R.ok_of h2
 obtain ⟨c, h4⟩ := aJ h4
 cases h4
 obtain ⟨l, vs, e, h5, r5⟩ := r1.lst
 rw [xQ h3] at r5
 rw [aDo r5] at h5
 exact ⟨l, is, by rw [e], h5, c, q _ H1 s1 (aN.mpr rfl)⟩
theorem aDp : ∀ {l : List (List Nat)} {us : List Value}, Vals (l.map fun t => V.str ⟨t.toArray⟩) us -> ∃ ps : List (Str × Tok), us = strValues ps /\ ps.map (·.1) = l.map fun t => (⟨t.toArray⟩ : Str)
 | [], _, .nil => ⟨[], rfl, rfl⟩
 | b :: l, _, .cons r t => by
  obtain ⟨ps, e, e2⟩ := aDp t
  obtain ⟨t, rfl⟩ := r
  exact ⟨(⟨b.toArray⟩, t) :: ps, by rw [e]; rfl, by rw [List.map_cons, e2]; rfl⟩
theorem aGr (x : List Nat) : ∀ (l : List (List Nat)), Str.join ⟨x.toArray⟩ (l.map fun t => (⟨t.toArray⟩ : Str)) = ⟨(sO x l).toArray⟩
 | [] => rfl
 | [a] => rfl
 | a :: b :: l => by
  show (⟨a.toArray⟩ : Str) ++ ⟨x.toArray⟩ ++ Str.join ⟨x.toArray⟩ ((b :: l).map fun t => (⟨t.toArray⟩ : Str)) = _
  rw [aGr x (b :: l)]
  show (⟨a.toArray ++ x.toArray ++ (sO x (b :: l)).toArray⟩ : Str) = ⟨(a ++ x ++ sO x (b :: l)).toArray⟩
  simp
theorem aNk : MtR X "str.join" (fun x vs H Q => ∃ (z : List Nat) (l : Addr) (ts : List (List Nat)), x = .str ⟨z.toArray⟩ /\ vs = [.ref l] /\ SqL X.K H l (ts.map fun t => V.str ⟨t.toArray⟩) /\ (ts.map List.length).sum + ts.length * z.length <= sizeLine /\ Q (.str ⟨(sO z ts).toArray⟩) H) := by
 intro pins s σ H x vs v us Q I rx rv h
 obtain ⟨z, l, ts, rfl, rfl, hl, hz, q⟩ := h
 obtain ⟨t, rfl⟩ := rx
 obtain ⟨u, rfl, ru⟩ := rv.one
 obtain rfl : u = Value.ref l := ru
 obtain ⟨its, rv, ⟨ob, n, e, hcl, _, hd⟩, _⟩ := I.list hl
 obtain ⟨ps, ei, e2⟩ := aDp rv
 refine SC.join (l := ps) ⟨ob, e, hcl, n, by rw [hd, ei]⟩ e2 ?_ fun t' k => ⟨.str ⟨(sO z ts).toArray⟩, H, I.tok _, ⟨t', ?_⟩, q⟩
 ·unfold JoinOk
  rw [Bool.not_eq_true']
  show Builtin.Str.tooLong _ = false
  rw [StrLaws.joinTotal]
  unfold Builtin.Str.tooLong
  refine decide_eq_false (Nat.not_lt.mpr ?_)
  rw [List.map_map, List.length_map, str_len]
  have : (ts.map ((fun x : Str => x.length) ∘ fun t => (⟨t.toArray⟩ : Str))) = ts.map List.length := List.map_congr_left fun t _ => str_len t
  rw [this]
  exact hz
 ·rw [<- aGr, <- StrLaws.glued_eq_join]; rfl
theorem aDq {K : PySem.W.Frag} {H : Hp} : ∀ {l : List (List Nat)} {vs : List V}, aW K H (l.map D.str) vs -> vs = l.map fun t => V.str ⟨t.toArray⟩
 | [], vs, h => cC.mp h
 | b :: l, vs, h => by
  obtain ⟨v, r, rfl, h1, h2⟩ := bB.mp h
  rw [aDq h2, aR.mp h1]; rfl
theorem aL4 (ho : PE X o (tP X.K B f)) (ha : PA X (e :: es) (tA X.K B r)) (hbase : attributeBase o "join" X.env (eval o X.env) = eval o X.env := by rfl)
  (hfew : ((backTo cpos (starEach (e :: es) X.env)).all (fun x => !x.1) && (backToKw cpos (keywordEach [] X.env)).all (fun x => x.1.isSome)
   && decide ((e :: es).length + ([] : List Keyword).length + (if ([] : List Keyword).isEmpty then 0 else 1) < 30)) = true := by rfl)
  (hline : (apos.endLine == cpos.line) = true := by rfl) (hs : starEach (e :: es) X.env = (false, eval e X.env) :: starEach es X.env := by rfl) (hplain : (backTo cpos (starEach es X.env)).any (·.1) = false := by rfl) :
  PE X (.Call (.Attribute o "join" apos) (e :: es) [] cpos) (tI X.K B (eMt aA6 f r)) := by
 refine aNe (m := aA6) PySem.F.slot_str_join PySem.F.type_str_join aNk (fun x xs d h => ?_) (fun A H x d xs v vs Q w rx rxs h k => ?_) ho ha hbase hfew hline hs hplain
 ·cases x <;> first | exact ⟨_, rfl⟩ | exact nomatch h
 ·unfold aA6 at h
  split at h
  ·obtain ⟨ts, h1, h2⟩ := R.ok_of h
   obtain ⟨c, h2⟩ := aJ h2
   cases h2
   obtain ⟨u, rfl, ru⟩ := aAv rxs
   obtain ⟨l, ws, e, h5, r5⟩ := iY.lst (.inl ru)
   rw [aCt h1] at r5
   rw [aDq r5] at h5
   exact ⟨_, l, ts, rx.str, by rw [e], h5, lim c, k _ H (aP.refl _) (aR.mpr rfl)⟩
  ·cases h
end
end Pu
namespace Pu
open PySem PySem.Spec PyProof.Rows L2
def vB : List Addr -> Heap -> Heap
 | [], h => h
 | a :: l, h => (vB l h).update a fun _ => { cls := .none, data := .freed }
theorem aI6 (h : Heap) (a : Addr) : (h.update a fun _ => { cls := .none, data := .freed }).get? a = none := by
 cases h with
 | mk objs =>
  simp only [Heap.update, Heap.get?, Array.getElem?_modify, if_true]
  cases objs[a]? <;> rfl
theorem rQ {b : Addr} {h : Heap} : ∀ {l : List Addr}, b ∈ l -> (vB l h).get? b = none
 | a :: l, hb => by
  by_cases e : b = a
  ·rw [e]; exact aI6 _ _
  ·unfold vB
   rw [Heap.get?_update_ne _ _ _ _ e]
   exact rQ ((List.mem_cons.mp hb).resolve_left e)
theorem wY {b : Addr} {h : Heap} : ∀ {l : List Addr}, b ∉ l -> (vB l h).get? b = h.get? b
 | [], _ => rfl
 | a :: l, hb => by
  unfold vB
  rw [Heap.get?_update_ne _ _ _ _ fun e => hb (by rw [e]; exact List.mem_cons_self)]
  exact wY fun z => hb (List.mem_cons_of_mem _ z)
theorem aGs (l : List Addr) (h : Heap) : (vB l h).StaysIn h := fun b o e => by
 by_cases hb : b ∈ l
 ·rw [rQ hb] at e; cases e
 ·rwa [wY hb] at e
theorem yV {h b0 base : Heap} : ∀ {l : List Env}, h.FunFrames b0 l -> (∀ L ∈ frs l, base.get? L = none) -> h.FunFrames base l
 | [], _, _ => trivial
 | env :: l, ⟨k, ⟨L, o, e1, _, e3, e4⟩, r⟩, hb => by
  have hL : L ∈ frs (env :: l) := by unfold frs; rw [List.filterMap_cons_some e1]; exact List.mem_cons_self
  exact ⟨k, ⟨L, o, e1, hb L hL, e3, e4⟩, yV r fun M hM => hb M (by unfold frs; rw [List.filterMap_cons_some e1]; exact List.mem_cons_of_mem _ hM)⟩
structure Fly (C : Addr) (h0 : Heap) (H : Hp) (e : Addr) (h : Heap) : Prop where
 n0 : h0.get? e = none
 nH : H e = none
 ex : ∃ oe vs a0, h.get? e = some oe /\ oe.cls = .ref C /\ oe.data = .fields vs /\ vs[0]? = some a0 /\
  (vs[1]? = some .none \/ ∃ T oT ts, vs[1]? = some (.ref T) /\ T ≠ e /\ h.get? T = some oT /\ oT.data = .fields ts /\ ts[3]? = some .none /\ h0.get? T = none /\ H T = none)
structure FlyT (C : Addr) (h0 : Heap) (H : Hp) (e : Addr) (h : Heap) : Prop where
 n0 : h0.get? e = none
 nH : H e = none
 ex : ∃ oe vs a0 T oT ts, h.get? e = some oe /\ oe.cls = .ref C /\ oe.data = .fields vs /\ vs[0]? = some a0 /\ vs[1]? = some (.ref T) /\ T ≠ e /\ h.get? T = some oT /\ oT.data = .fields ts /\ ts[3]? = some .none /\ h0.get? T = none /\ H T = none
theorem FlyT.fly {C e : Addr} {h0 h : Heap} {H : Hp} (F : FlyT C h0 H e h) : Fly C h0 H e h := by
 obtain ⟨n0, nH, oe, vs, a0, T, oT, ts, he, hc, hd, hz, r⟩ := F
 exact ⟨n0, nH, oe, vs, a0, he, hc, hd, hz, .inr ⟨T, oT, ts, r⟩⟩
def aL5 (h0 : Heap) (H : Hp) (fs : List Addr) (h h' : Heap) : Prop :=
 ∀ b o, h.get? b = some o -> ((∃ o0, h0.get? b = some o0) \/ ∃ u, H b = some u) -> (b ∉ fs -> h'.get? b = some o) /\ ∃ sl, h'.get? b = some { o with slots := sl }
section
variable {M : Model} {A : Around} {E : Value -> Shared -> Prop} {s : Shared} {C e L : Addr} {h0 b0 : Heap} {H : Hp} {env : Env} {outer : List Env} {Q : Unit -> Shared -> Prop}
theorem yW {h h' : Heap} {l : List Addr} {fl : List Env} {a0 : Value} (hth : ∀ b o, h0.get? b = some o -> ∃ o', h.get? b = some o') (hH : ∀ b u, H b = some u -> ∃ o, h.get? b = some o) (n0 : h0.get? e = none) (nH : H e = none)
  (hl : ∀ b ∈ l, b = e \/ (h0.get? b = none /\ H b = none) \/ b ∈ frs fl) (f : h'.FunFrames (vB l h) fl) (t : h'.TracedW (vB l h) e (.ref C) a0) : FlyT C h0 H e h' := by
 obtain ⟨oe, vs, T, oT, ts, he, ⟨hc, hz⟩, hd, h1, hT0, hTe, hT, hdT, h3⟩ := t
 have : h0.get? T = none /\ H T = none := by
  by_cases hb : T ∈ l
  ·rcases hl T hb with z | z | z
   ·exact (hTe z).elim
   ·exact z
   ·obtain ⟨_, o, ho, hnf⟩ := f.mem z
    rw [hT] at ho
    cases ho
    exact (hnf ts hdT).elim
  ·rw [wY hb] at hT0
   refine ⟨?_, ?_⟩
   ·cases q : h0.get? T with
    | none => rfl
    | some o => obtain ⟨o', z⟩ := hth T o q; rw [hT0] at z; cases z
   ·cases q : H T with
    | none => rfl
    | some u => obtain ⟨o', z⟩ := hH T u q; rw [hT0] at z; cases z
 exact ⟨n0, nH, oe, vs, a0, T, oT, ts, he, hc, hd, hz, h1, hTe, hT, hdT, h3, this⟩
theorem aDr {h h' : Heap} {l : List Addr} {fl : List Env} {bb : Heap} (hl : ∀ b ∈ l, (h0.get? b = none /\ H b = none) \/ b ∈ frs fl) (f : h.FunFrames bb fl) (k1 : (vB l h).StaysIn h')
  (k4 : ∀ b o, h.get? b = some o -> (∀ vs, o.data ≠ .fields vs) -> ∃ sl, h'.get? b = some { o with slots := sl }) : aL5 h0 H (frs fl) h h' := fun b o e hb => by
 have hk : b ∉ frs fl -> h'.get? b = some o := fun hn => k1 b o (by
  rw [wY fun z => ?_]; exact e
  rcases hl b z with ⟨q1, q2⟩ | q
  ·rcases hb with ⟨o0, z⟩ | ⟨u, z⟩
   ·rw [q1] at z; cases z
   ·rw [q2] at z; cases z
  ·exact hn q)
 refine ⟨hk, ?_⟩
 by_cases hn : b ∈ frs fl
 ·obtain ⟨_, o', ho, hnf⟩ := f.mem hn
  rw [e] at ho
  cases ho
  exact k4 b o e hnf
 ·exact ⟨o.slots, hk hn⟩
theorem aI7 (hfr : A.frames = some (env :: outer)) (hl : s.heap.FunFrames b0 (env :: outer)) (hf : env.frame = some L) (hth : ∀ b o, h0.get? b = some o -> ∃ o', s.heap.get? b = some o') (hH : ∀ b u, H b = some u -> ∃ o, s.heap.get? b = some o)
  (F : Fly C h0 H e s.heap) (hQ : ∀ h', Fly C h0 H e h' -> aL5 h0 H (frs (env :: outer)) s.heap h' -> Q () { s with heap := h' }) : wpAny M A (leaving env (.ref e)) Q E s := by
 obtain ⟨n0, nH, oe, vs, a0, he, hc, hd, hz, ht⟩ := F
 rcases ht with ht | ⟨T, oT, ts, h1, hTe, hT, hdT, h3, nT, nHT⟩
 ·have hcut : ∀ L ∈ frs (env :: outer), (vB (e :: frs (env :: outer)) s.heap).get? L = none := fun L hL => rQ (List.mem_cons_of_mem _ hL)
  refine wpAny_leaving_firstW (base := vB (e :: frs (env :: outer)) s.heap) hfr (yV hl hcut) hf he (aGs _ _) (rQ List.mem_cons_self) hd ht hz fun h' ⟨k1, k2, k3, k4⟩ => ?_
  rw [hc] at k3
  refine hQ h' (yW (h := s.heap) hth hH n0 nH (fun b hb => ?_) k2 k3).fly (aDr (fun b hb => ?_) hl k1 k4)
  ·exact (List.mem_cons.mp hb).elim .inl fun z => .inr (.inr z)
  ·exact (List.mem_cons.mp hb).elim (fun z => .inl (by rw [z]; exact ⟨n0, nH⟩)) .inr
 ·have hcut : ∀ L ∈ frs (env :: outer), (vB (e :: T :: frs (env :: outer)) s.heap).get? L = none := fun L hL => rQ (List.mem_cons_of_mem _ (List.mem_cons_of_mem _ hL))
  refine wpAny_leaving_nextW (base := vB (e :: T :: frs (env :: outer)) s.heap) (cls := .ref C) (a0 := a0) hfr (yV hl hcut) hf ⟨oe, vs, T, oT, ts, he, ⟨hc, hz⟩, hd, h1, rQ (List.mem_cons_of_mem _ List.mem_cons_self), hTe, hT, hdT, h3⟩ (aGs _ _) (rQ List.mem_cons_self) fun h' ⟨k1, k2, k3, k4⟩ => ?_
  refine hQ h' (yW (h := s.heap) hth hH n0 nH (fun b hb => ?_) k2 k3).fly (aDr (fun b hb => ?_) hl k1 k4)
  ·rcases List.mem_cons.mp hb with z | hb
   ·exact .inl z
   ·exact (List.mem_cons.mp hb).elim (fun z => .inr (.inl (by rw [z]; exact ⟨nT, nHT⟩))) fun z => .inr (.inr z)
  ·rcases List.mem_cons.mp hb with z | hb
   ·exact .inl (by rw [z]; exact ⟨n0, nH⟩)
   ·exact (List.mem_cons.mp hb).elim (fun z => .inl (by rw [z]; exact ⟨nT, nHT⟩)) .inr
end
end Pu
namespace Pu
open PySem PySem.Spec PyProof.Rows L2
theorem aDs {P : Program} {w : World} {H : Hp} {h : Heap} {a : Addr} {o : HO} (x : gD P w H h a o) : ∃ ob, h.get? a = some ob := by
 cases o with
 | lst xs => obtain ⟨_, _, _, _, e⟩ := x; exact ⟨_, e⟩
 | tup xs => obtain ⟨_, _, _, ob, e, _⟩ := x; exact ⟨_, e⟩
 | dK kvs => obtain ⟨_, _, _, _, o, _, _, e, _⟩ := x; exact ⟨_, e⟩
 | dT kvs => obtain ⟨_, _, _, _, o, _, _, e, _⟩ := x; exact ⟨_, e⟩
 | set S n => obtain ⟨o, _, _, _, e, _⟩ := x; exact ⟨_, e⟩
 | ins C dx fs => obtain ⟨_, _, _, e, _⟩ := x; exact ⟨_, e⟩
 | own y => obtain ⟨_, e⟩ := x; exact ⟨_, e⟩
 | xd fs => obtain ⟨_, ⟨_, _, _, e, _⟩, _⟩ := x; exact ⟨_, e⟩
 | rng lo hi => obtain ⟨_, _, _, e⟩ := x; exact ⟨_, e⟩
 | frz ob u => obtain ⟨e, _⟩ := x; exact ⟨_, e⟩
 | tbl ps => exact ⟨_, (show h.get? a = some _ from x)⟩
 | met f y => exact ⟨_, (show h.get? a = some _ from x)⟩
 | ext φ => obtain ⟨_, ⟨_, e⟩, _⟩ := x; exact ⟨_, e⟩
theorem aAw {P : Program} {w : World} {H : Hp} {h : Heap} (x : HOk P w H h) : ∀ b u, H b = some u -> ∃ o, h.get? b = some o := fun b u e => aDs (x b u e)
theorem aI8 {P : Program} {w : World} {H : Hp} {h0 h h' : Heap} {fs : List Addr} (x : HOk P w H h) (m : aL5 h0 H fs h h') (hf : ∀ b ∈ fs, H b = none) : HOk P w H h' := fun b u e => by
 refine (x b u e).stay (fun c v hc q => ?_) (fun _ q => q) fun _ _ q => q
 have ht : ∃ u, H c = some u := by
  rcases hc with z | z
  ·exact ⟨u, by rw [z]; exact e⟩
  ·exact ⟨_, z⟩
 obtain ⟨u', hu⟩ := ht
 exact (m c v q (.inr ⟨u', hu⟩)).1 fun hb => by rw [hf c hb] at hu; cases hu
theorem Fly.back {C e : Addr} {h0 h1 h : Heap} {H : Hp} (F : Fly C h1 H e h) (k : ∀ b o, h0.get? b = some o -> ∃ o', h1.get? b = some o') : Fly C h0 H e h := by
 have z : ∀ b, h1.get? b = none -> h0.get? b = none := fun b hb => by
  cases q : h0.get? b with
  | none => rfl
  | some o => obtain ⟨o', q'⟩ := k b o q; rw [hb] at q'; cases q'
 obtain ⟨n0, nH, oe, vs, a0, he, hc, hd, hz, ht⟩ := F
 refine ⟨z _ n0, nH, oe, vs, a0, he, hc, hd, hz, ?_⟩
 rcases ht with ht | ⟨T, oT, ts, h1', hTe, hT, hdT, h3, nT, nHT⟩
 ·exact .inl ht
 ·exact .inr ⟨T, oT, ts, h1', hTe, hT, hdT, h3, z _ nT, nHT⟩
def CX1 (P : Program) (w : World) : CXT := fun outer H s E e s' => ∃ ea C H', e = .ref ea /\ s'.os = s.os /\ AllBare s'.gens /\ Un (frs outer) [] H H' s.heap s'.heap /\ HOk P w H' s'.heap /\ Fly C s.heap H' ea s'.heap /\ E (.ref C) none H'
def aRl (X : Cx) (W : Addr -> L2.St -> Hp -> Prop) : Prop := ∀ (pins : List (Addr × Obj)) (σ : L2.St) (H : Hp) (s : Shared) (ea C : Addr) (H' : Hp) (s' : Shared), Inv X pins σ H s -> s'.os = s.os -> AllBare s'.gens -> Un (frs X.stack) [] H H' s.heap s'.heap ->
 HOk X.prog X.w H' s'.heap -> Fly C s.heap H' ea s'.heap -> W C σ H' -> X.xe (.ref ea) s'
theorem aL6 {P : Program} {w : World} {K : PySem.W.Frag} {mg : Str -> Option Value} {base : Heap} {N : List Str} {qual : Str} {scope : Scope} {f : Addr} {cd : Value} {A : Around} {outer : List Env} {s0 : Shared} {H0 : Hp} {E : XK} :
  aRl (rZ (CX1 P w) P w K mg base N qual scope f cd A outer s0 H0 E) (fun C _ H' => E (.ref C) none H') := by
 intro pins σ H s ea C H' s' I hos hb un hok F hE
 have J : Inv _ pins σ H' s' := I.call' (ch := []) hos un hok hb fun _ z => nomatch z
 have th0 : ∀ b o, s0.heap.get? b = some o -> ∃ o', s.heap.get? b = some o' := fun b o e => I.base.there b o e (by intro z; cases z)
 have th1 : ∀ b o, s0.heap.get? b = some o -> ∃ o', s'.heap.get? b = some o' := fun b o e => J.base.there b o e (by intro z; cases z)
 refine aI7 (h0 := s0.heap) (L := s0.heap.objs.size) J.ok.frames J.stack rfl th1 (aAw hok) (F.back th0) fun h' F' m => ?_
 refine ⟨ea, C, H', rfl, J.os, hb, ?_, aI8 hok m J.stkFree, F', hE⟩
 have nl : ∀ b o, s0.heap.get? b = some o -> b ≠ s0.heap.objs.size := fun b o e => Nat.ne_of_lt (Heap.lt_size e)
 have nf : ∀ b o, s0.heap.get? b = some o -> b ∉ frs outer -> b ∉ frs (envOfC qual scope s0.heap.objs.size f cd :: outer) := fun b o e hn z => by
  rcases List.mem_cons.mp (show b ∈ s0.heap.objs.size :: frs outer from z) with z | z
  ·exact nl b o e z
  ·exact hn z
 refine ⟨fun b o e n hb hx => ?_, fun b o e n hb hx => ?_, fun b o e n hx => J.base.free b o e n (by intro z; cases z), fun b o e hx => ?_, J.base.tups, J.base.frzs, J.base.tbls⟩
 ·exact (m b o (J.base.keep b o e n hb (by intro z; cases z)) (.inl ⟨o, e⟩)).1 (nf b o e hb)
 ·obtain ⟨sl, e1⟩ := J.base.slot b o e n hb (by intro z; cases z)
  obtain ⟨sl2, e2⟩ := (m b _ e1 (.inl ⟨o, e⟩)).2
  exact ⟨sl2, e2⟩
 ·obtain ⟨o', e1⟩ := th1 b o e
  obtain ⟨sl2, e2⟩ := (m b _ e1 (.inl ⟨o, e⟩)).2
  exact ⟨_, e2⟩
theorem aL7 {h h' : Heap} {H : Hp} {e C : Addr} {vs : List Value} {P : Program} {w : World} (x : Heap.MadeExcOf h h' e (.ref C) vs) (hok : HOk P w H h) : Fly C h H e h' := by
 obtain ⟨t, he, ht, _⟩ := x.there
 refine ⟨x.new, ?_, _, _, _, he, rfl, rfl, rfl, .inl rfl⟩
 cases q : H e with
 | none => rfl
 | some u => obtain ⟨o, z⟩ := aAw hok e u q; rw [x.new] at z; cases z
section
variable {X : Cx} {e : Expr} {es : List Expr} {t : TA} {W : Addr -> L2.St -> Hp -> Prop}
theorem aL8 {c : String} {C : Addr} {tl : List Value} {np cpos pos : Pos} (hL : aRl X W) (hc : ExcAt X.K c C tl) (hm : X.mg (Str.ofString c) = some (.ref C)) (hcalm : X.calm = true) (ha : PA X (e :: es) t) (hg : Gl X (Str.ofString c) := by rfl) (hdb : (Str.ofString c == ("__debug__" : Str)) = false := by decide)
  (he : starEach (e :: es) X.env = (false, eval e X.env) :: starEach es X.env := by rfl) (hpl : (backTo cpos (starEach es X.env)).any (·.1) = false := by rfl) (hlen : (e :: es).length <= 100 := by decide) :
  PS X (.Raise (some (.Call (.Name (Str.ofString c) np) (e :: es) [] cpos)) none pos) (fun _ σ H => t σ H fun vs H' => vs.length <= 100 /\ W C σ H') := by
 intro pins s σ H Dn I h
 obtain ⟨B, newId, initId, bmB, FB, hob⟩ := hc.ob
 obtain ⟨N, nm, q, bs, hdct, sn, sub, ab, col, dd, k0, k1, k2, k3, k5, mN, hC, hN, hni, T⟩ := hob X.base I.ok.mod.kin
 refine wpAny_Raise_call_subT (C := C) (nm := nm) (q := q) (N := N) (bs := bs) (bm := tl) (hdct := hdct) (sn := sn) (sub := sub) (ab := ab) (col := col) (dd := dd) (k0 := k0) (k1 := k1) (k2 := k2) (k3 := k3) (k5 := k5)
  FB (mN := mN) (T.hasType FB.hasBase) (I.ok.hd hcalm) (by rw [he]; show (false || (backTo cpos (starEach es X.env)).any (·.1)) = false; rw [hpl]; rfl) hni (wJ I hg hm ⟨rfl, ?_⟩ hdb)
 have hh := ha cpos pins s σ H _ I h
 rw [he] at hh ⊢
 refine Calls.evalArgs_plain (thn hh fun us s2 ⟨vs, H2, I2, r2, hv, hw⟩ => ⟨rfl, ?_, I2.bk _ _ hC, hN.keeps I2.bk, T.keeps I2.bk, fun h' ea hx => ?_⟩)
 ·show us.length <= sizeLine
  rw [<- r2.length]
  exact Nat.le_trans hv (by decide)
 ·exact hL pins σ H2 s2 ea C H2 { s2 with heap := h' } I2 rfl I2.bare (Un.kept hx.keeps) (I2.hok.kept hx.keeps) (aL7 hx I2.hok) hw
end
end Pu
namespace Pu
open PySem PySem.Spec PyProof.Rows L2
section
variable {X : Cx} {pins : List (Addr × Obj)} {σ : L2.St} {H : Hp} {ea C : Addr} {s : Shared}
end
section
variable {M : Model} {A : Around} {E : Value -> Shared -> Prop} {nm q : Str} {C N : Addr} {bs bm : List Value} {hdct : Bool} {sn : List Str} {sub : List Value} {ab : Bool} {col : Option Bool} {dd : Option Addr} {k0 k1 k2 k3 k5 : Option Value} {newId : String}
variable {nm' q' : Str} {D' N' : Addr} {bs' bm' : List Value} {hdct' : Bool} {sn' : List Str} {sub' : List Value} {ab' : Bool} {col' : Option Bool} {dd' : Option Addr} {j0 j1 j2 j3 j5 : Option Value} {newId' : String}
end
section
variable {X : Cx}
end
end Pu
namespace Pu
open PySem PySem.Spec PyProof.Rows L2
abbrev XW := D -> L2.St -> Hp -> Prop
def Exc (K : PySem.W.Frag) (B A : List Addr) (H : Hp) (sm : Bool) (st : PSt) (x : D) (W : XW) : Prop := ∀ A' st' σ' H', Le A H A' H' -> RS K B A' H' st' σ' -> (sm = true -> st' = st) -> W x σ' H'
theorem Exc.mono {K : PySem.W.Frag} {B A A1 : List Addr} {H H1 : Hp} {sm : Bool} {st : PSt} {x : D} {W : XW} (l : Le A H A1 H1) (h : Exc K B A H sm st x W) : Exc K B A1 H1 sm st x W := fun A' st' σ' H' l' => h A' st' σ' H' (l.trans l')
theorem Exc.any {K : PySem.W.Frag} {B A : List Addr} {H : Hp} {sm : Bool} {st st2 : PSt} {x : D} {W : XW} (h : Exc K B A H false st2 x W) : Exc K B A H sm st x W := fun A' st' σ' H' l r _ => h A' st' σ' H' l r fun z => nomatch z
def Out (K : PySem.W.Frag) (B A : List Addr) (H : Hp) (sm : Bool) (st : PSt) (W : XW) (Dn : Ends) (r : R Fl) : Prop := match r with
 | .ok r => aHv K B A H r Dn
 | .exc x => Exc K B A H sm st x W
 | .bad => False
theorem Out.mono {K : PySem.W.Frag} {B A A1 : List Addr} {H H1 : Hp} {sm : Bool} {st : PSt} {W : XW} {Dn : Ends} {r : R Fl} (l : Le A H A1 H1) (h : Out K B A H sm st W Dn r) : Out K B A1 H1 sm st W Dn r := by
 cases r with
 | ok r => exact aHv.mono l h
 | exc x => exact Exc.mono l h
 | bad => exact h
theorem Out.any {K : PySem.W.Frag} {B A : List Addr} {H : Hp} {sm : Bool} {st st2 : PSt} {W : XW} {Dn : Ends} {r : R Fl} (h : Out K B A H false st2 W Dn r) : Out K B A H sm st W Dn r := by
 cases r with
 | ok r => exact h
 | exc x => exact Exc.any h
 | bad => exact h
def tSX (K : PySem.W.Frag) (B : List Addr) (sm : Bool) (W : XW) (b : Bd) : TS := fun Dn σ H => ∃ A st, RS K B A H st σ /\ Out K B A H sm st W Dn (b st)
def tIX (K : PySem.W.Frag) (B : List Addr) (W : XW) (f : Ex) : TE := fun σ H Q => ∃ A st, RS K B A H st σ /\ (match f st with
 | .ok d => ∀ v H', aP H H' -> Rep K (hide (A ++ B) H') d v -> Q v H'
 | .exc x => ∀ H', aP H H' -> W x σ H'
 | .bad => False)
def aGt (X : Cx) (W : XW) : Prop := aRl X fun C σ H' => ∃ c bm, ExcAt X.K c C bm /\ W (.exn c [] []) σ H'
section
variable {X : Cx} {B : List Addr} {a b e o : Expr} {f g : Ex} {pos : Pos} {sm : Stmt} {rest : List Stmt} {bd bd' : Bd} {W : XW} {s1 s2 : Bool}
theorem aAx (h : PS X sm (tSX X.K B s1 W bd)) : PS X sm (tSX X.K B false W bd) := dU h fun Dn σ H ⟨A, st, rs, q⟩ => ⟨A, st, rs, q.any⟩
theorem vC (h : PS X sm (tS X.K B bd)) : PS X sm (tSX X.K B s1 W (sNX bd)) := dU h (by
 rintro Dn σ H ⟨A, st, rs, q⟩
 unfold sNX at q
 cases hb : bd st with
 | ok r => rw [hb] at q; exact ⟨A, st, r, rs, hb, q⟩
 | exc x => rw [hb] at q; exact q.elim
 | bad => rw [hb] at q; exact q.elim)
theorem aP2 : PSs X [] (tSX X.K B s1 W dG) := lW aFg (by
 rintro Dn σ H ⟨A, st, rs, q⟩
 exact q A σ H Le.refl rs)
theorem aDt (h1 : PS X sm (tSX X.K B s1 W bd)) : PSs X [sm] (tSX X.K B s1 W bd) := wK h1
theorem rR (h1 : PS X sm (tSX X.K B s1 W bd)) (h2 : PSs X rest (tSX X.K B s2 W bd')) : PSs X (sm :: rest) (tSX X.K B false W (bQ bd bd')) := by
 refine lW (rW h1 h2) ?_
 rintro Dn σ H ⟨A, st, rs, q⟩
 refine ⟨A, st, rs, ?_⟩
 unfold bQ xN at q
 cases hb : bd st with
 | ok r =>
  rw [hb] at q
  cases r with
  | nx s1 => exact fun A' σ' H' l rs' => ⟨A', s1, rs', (q.mono l).any⟩
  | rt d => exact q
  | bk s1 => exact q
  | ct s1 => exact q
 | exc x => rw [hb] at q; exact Exc.any q
 | bad => rw [hb] at q; exact q
theorem aV0 {c : Expr} {t : Ex} {x y : List Stmt} (hc : PT X c (tT X.K B t)) (ha : PSs X x (tSX X.K B s1 W bd)) (hb : PSs X y (tSX X.K B s1 W bd')) : PS X (.If c x y pos) (tSX X.K B s1 W (sIf (eNX t) bd bd')) := dU (aNy hc ha hb) (by
 rintro Dn σ H ⟨A, st, rs, q⟩
 unfold sIf eNX at q
 cases ht : t st with
 | exc x => rw [ht] at q; exact q.elim
 | bad => rw [ht] at q; exact q.elim
 | ok d =>
  rw [ht] at q
  cases d <;> first | exact q.elim | skip
  rename_i k
  refine ⟨A, st, k, rs, ht, fun H1 s1 => ?_⟩
  cases k with
  | true => exact ⟨A, st, rs.mono s1, Out.mono (Le.of s1) q⟩
  | false => exact ⟨A, st, rs.mono s1, Out.mono (Le.of s1) q⟩)
theorem aV1 (h : PE X e (tIX X.K B W f)) (hs : swapsWith e none pos.line X.env = pure false := by rfl) : PS X (.Expr e pos) (tSX X.K B true W (aHi f)) := dU (wL h hs) (by
 rintro Dn σ H ⟨A, st, rs, q⟩
 refine ⟨A, st, rs, ?_⟩
 unfold aHi at q
 cases hf : f st with
 | ok d => rw [hf] at q; exact fun v H' s _ => q A σ H' (Le.of s) (rs.mono s)
 | exc x => rw [hf] at q; exact fun H' s => q A st σ H' (Le.of s) (rs.mono s) fun _ => rfl
 | bad => rw [hf] at q; exact q)
theorem aV2 (i : Nat) {x : Str} {pos' : Pos} (he : PE X e (tIX X.K B W f)) (hN : X.N.Nodup) (hi : X.N[i]? = some x := by rfl) (hx : Loc X.env.scope x := by first | exact Or.inl rfl | exact Or.inr rfl) (hs : swapsWith e (some (.Name x pos')) pos.line X.env = pure false := by rfl)
  (hf : X.fn x = true \/ X.env.scope.names.lookup x = some .local := by first | exact .inl rfl | exact .inr rfl | assumption) : PS X (.Assign [.Name x pos'] e pos) (tSX X.K B true W (eO i f)) := dU (uH hN hi hx he hs hf) (by
 rintro Dn σ H ⟨A, st, rs, q⟩
 refine ⟨A, st, rs, ?_⟩
 unfold eO at q
 cases hf : f st with
 | ok d => rw [hf] at q; exact fun v H' s r => q A _ H' (Le.of s) ((rs.mono s).set i r)
 | exc x => rw [hf] at q; exact fun H' s => q A st σ H' (Le.of s) (rs.mono s) fun _ => rfl
 | bad => rw [hf] at q; exact q)
theorem x_raise {c : String} {C : Addr} {tl : List Value} {es : List Expr} {r : Exs} {np cpos : Pos} (hL : aGt X W) (hc : ExcAt X.K c C tl) (hm : X.mg (Str.ofString c) = some (.ref C)) (hcalm : X.calm = true) (ha : PA X (e :: es) (tA X.K B r)) (hg : Gl X (Str.ofString c) := by rfl) (hdb : (Str.ofString c == ("__debug__" : Str)) = false := by decide)
  (he : starEach (e :: es) X.env = (false, eval e X.env) :: starEach es X.env := by rfl) (hpl : (backTo cpos (starEach es X.env)).any (·.1) = false := by rfl) (hlen : (e :: es).length <= 100 := by decide) :
  PS X (.Raise (some (.Call (.Name (Str.ofString c) np) (e :: es) [] cpos)) none pos) (tSX X.K B true W (xR c r)) := by
 refine dU (aL8 hL hc hm hcalm ha hg hdb he hpl hlen) ?_
 rintro Dn σ H ⟨A, st, rs, q⟩
 unfold xR at q
 cases hr : r st with
 | exc x => rw [hr] at q; exact q.elim
 | bad => rw [hr] at q; exact q.elim
 | ok ds =>
  rw [hr] at q
  by_cases hl : ds.length <= 100
  ·refine ⟨A, st, ds, rs, hr, fun vs H1 s1 r1 => ⟨by rw [r1.length]; exact hl, c, tl, hc, ?_⟩⟩
   have q' : Out X.K B A H true st W Dn (aH (ds.length <= 100) (.exc (.exn c [] []))) := q
   rw [aG hl] at q'
   exact q' A st σ H1 (Le.of s1) (rs.mono s1) fun _ => rfl
  ·have q' : Out X.K B A H true st W Dn (aH (ds.length <= 100) (.exc (.exn c [] []))) := q
   rw [show aH (ds.length <= 100) (R.exc (α := Fl) (.exn c [] [])) = .bad from if_neg hl] at q'
   exact q'.elim
end
end Pu
namespace Pu
open PySem PySem.Spec PyProof.Rows L2
def spE (K : PySem.W.Frag) (np : Nat) (p : List D -> R D) : Sp := fun vs H Q E => ∃ A ds, Own A H /\ aW K (hide A H) ds vs /\ ds.length = np /\ (match p ds with
 | .ok d => ∀ v H', aP H H' -> Rep K (hide A H') d v -> Q v H'
 | .exc x => ∀ C c bm H', x = .exn c [] [] -> ExcAt K c C bm -> aP H H' -> E (.ref C) none H'
 | .bad => False)
theorem aRm {P : Program} {w : World} {K : PySem.W.Frag} {mg : Str -> Option Value} {base : Heap} {x qual : Str} {st : Stmt} {f : Addr} {fd : FuncData} {N ps : List Str} {k : Nat} {sm : Bool} {dV : Value} (F : FunD K x qual st dV f fd) (S : FnScope N ps (aF st)) (np n : Nat) (bd : Bd) (hnp : ps.length = np) (hn : N.length = n)
  (hb : ∀ (cdv : Value) (A : Around) (outer : List Env) (s : Shared) (H : Hp) (E : XK) (B : List Addr) (W : XW), Room k (A.deeper (envOfC qual (aF st) s.heap.objs.size f cdv)) ->
   aGt (rZ (CX1 P w) P w K mg base N qual (aF st) f cdv A outer s H E) W -> PSs (rZ (CX1 P w) P w K mg base N qual (aF st) f cdv A outer s H E) (bD st) (tSX K B sm W bd)) : FnOk P w K mg base (CX1 P w) (k + 1) f fd ps (spE K np (eN np n bd)) := by
 obtain ⟨oc, od, kV, doc, pm, an, cdv, ct, osl, rfl, lk, hcd⟩ := F.ex
 refine aIz lk hcd S (fun vs H Q E h => ?_) fun A outer s H vs Q E hr h => ?_
 ·obtain ⟨A, ds, own, r, hl, _⟩ := h
  rw [r.length, hl, hnp]
 ·obtain ⟨B, ds, own, r, hl, q⟩ := h
  let W : XW := fun x _ H' => ∀ C c bm, x = .exn c [] [] -> ExcAt K c C bm -> E (.ref C) none H'
  refine ⟨tSX K B sm W bd, hb cdv A outer s H E B W hr ?_, ?_⟩
  ·intro pins σ H1 s1 ea C H' s' I h1 h2 h3 h4 h5 ⟨c, bm, hc, hw⟩
   exact aL6 pins σ H1 s1 ea C H' s' I h1 h2 h3 h4 h5 (hw C c bm rfl hc)
  ·have rs := tY (N := N) own r
   rw [hl, hn] at rs
   refine ⟨[], _, rs, ?_⟩
   have fin : ∀ {A' : List Addr} {H' : Hp}, Le [] H A' H' -> aP H H' := fun {A' H'} l => by
    unfold Le at l
    rw [lM] at l
    exact l.trans (aX _ _)
   unfold eN at q
   rw [aG hl] at q
   cases hfl : bd (ds.map (fun d => some (Sl.v d)) ++ List.replicate (n - np) none) with
   | ok fl =>
    rw [hfl] at q
    cases fl with
    | nx s1 => exact fun A' σ' H' l rs' => q _ H' (fin l) (bU.mpr rfl)
    | rt d' => exact fun A' v H' l rv => q v H' (fin l) (rv.mono (dI fun a ha => List.mem_append_right _ ha))
    | bk s1 => exact q.elim
    | ct s1 => exact q.elim
   | exc x =>
    rw [hfl] at q
    exact fun A' st' σ' H' l rs' _ C c bm e hc => q C c bm H' e hc (fin l)
   | bad => rw [hfl] at q; exact q
theorem aNl {P : Program} {w : World} {K : PySem.W.Frag} {mg : Str -> Option Value} {base : Heap} {k np : Nat} {f : Addr} {fd : FuncData} {ps : List Str} {p : List D -> R D} (F : FnOk P w K mg base (CX1 P w) k f fd ps (spE K np p)) : FnOk P w K mg base CX0 k f fd ps (spI K np (pNX p)) := by
 have up : ∀ vs H Q E, spI K np (pNX p) vs H Q E -> spE K np p vs H Q E0 := by
  rintro vs H Q E ⟨A, ds, d, own, r, hl, hp, q⟩
  refine ⟨A, ds, own, r, hl, ?_⟩
  rw [R.nox_ok hp]
  exact q
 refine ⟨fun vs H Q E h => F.len vs H Q E0 (up vs H Q E h), fun A outer s H args us vs Q E hr e0 hb hv h => ?_⟩
 refine codeAny_mono (F.run A outer s H args us vs Q E0 hr e0 hb hv (up vs H Q E h)) fun r s' z => ?_
 cases r with
 | error e => obtain ⟨_, _, _, _, _, _, _, _, _, hE⟩ := z; exact hE.elim
 | ok fl => cases fl <;> exact z
theorem aI9 {np n : Nat} {bd : Bd} (ds : List D) (h : eN np n bd ds ≠ .bad) : ds.length = np := by
 by_cases hl : ds.length = np
 ·exact hl
 ·exact (h (if_neg hl)).elim
section
variable {X : Cx} {B : List Addr} {a b e o : Expr} {f g : Ex} {pos : Pos} {W : XW}
theorem aNm {CX : CXT} {k : Nat} {fa : Addr} {fd : FuncData} {ps : List Str} {sp : Sp} {dvs : List V} {ds : List Value} {E : XK} {pins : List (Addr × Obj)} {σ : L2.St} {H : Hp} {s : Shared} {Q : VK} {us : List Value} {vs : List V} (F : FnOk X.prog X.w X.K X.mg X.base CX k fa fd ps sp) (hr : Room k X.A) (hb : Binds X.K fd ps ds) (hd : Vals dvs ds)
  (I : Inv X pins σ H s) (r : Vals vs us) (hx : ∀ e s', CX X.stack H s E e s' -> X.xe e s') (h : sp (vs ++ dvs) H Q E) : wpAny (model X.prog X.w) X.A (call (.ref fa) us) (EP X pins σ Q) X.xe s := by
 have r2 : Vals (vs ++ dvs) (us ++ ds) := r.append hd
 have hl : (us ++ ds).length = ps.length := by rw [<- r2.length]; exact F.len _ _ _ _ h
 refine wpAny_call (codeAny_mono (F.run X.A X.stack s H ⟨us, []⟩ (us ++ ds) (vs ++ dvs) Q E hr I.env0 (hb s us I.kIn hl) r2 h) fun r s' hq => ?_)
 cases r with
 | error e => exact hx e s' hq
 | ok fl =>
  cases fl with
  | ret u => exact I.after hq
  | next => exact False.elim hq
  | brk => exact False.elim hq
  | cont => exact False.elim hq
def EW (X : Cx) (W : XW) (σ : L2.St) : XK := fun cv _ H' => ∃ C c bm, cv = .ref C /\ ExcAt X.K c C bm /\ W (.exn c [] []) σ H'
theorem aXk {pins : List (Addr × Obj)} {σ : L2.St} {H : Hp} {s : Shared} (hL : aGt X W) (I : Inv X pins σ H s) (e : Value) (s' : Shared) (h : CX1 X.prog X.w X.stack H s (EW X W σ) e s') : X.xe e s' := by
 obtain ⟨ea, C, H', rfl, os, bare, un, hok, F, C', c, bm, e1, hc, hw⟩ := h
 cases e1
 exact hL pins σ H s ea C H' s' I os bare un hok F ⟨c, bm, hc, hw⟩
structure MethOkX (P : Program) (w : World) (K : PySem.W.Frag) (mg : Str -> Option Value) (base : Heap) (c m : String) (k np : Nat) (dv : List D) (p : List D -> R D) : Prop where
 ex : ∃ (C fa : Addr) (fd : FuncData) (ps : List Str) (dvs : List V) (ds : List Value), ClsAt K c C /\ Meth K C (Str.ofString m) fa /\ FnOk P w K mg base (CX1 P w) k fa fd ps (spE K np p) /\ Binds K fd ps ds /\ Vals dvs ds /\ ∀ H, aW K H dv dvs
 len : ∀ ds, p ds ≠ .bad -> ds.length = np
theorem MethOkX.calm {P : Program} {w : World} {K : PySem.W.Frag} {mg : Str -> Option Value} {base : Heap} {c m : String} {k np : Nat} {dv : List D} {p : List D -> R D} (h : MethOkX P w K mg base c m k np dv p) : MethOk P w K mg base c m k np dv (pNX p) := by
 obtain ⟨C, fa, fd, ps, dvs, ds, hc, hm, F, bd, vd, rd⟩ := h.ex
 refine ⟨⟨C, fa, fd, ps, dvs, ds, hc, hm, aNl F, bd, vd, rd⟩, fun ds d e => h.len ds fun z => ?_⟩
 rw [R.nox_ok e] at z
 cases z
theorem aGu {c m : String} {k j np : Nat} {dv : List D} {p : List D -> R D} {es : List Expr} {r : Exs} {apos : Pos} {pl : Sem Bool} (h : MethOkX X.prog X.w X.K X.mg X.base c m k np dv p) (hL : aGt X W) (hr : Room j X.A) (hk : k <= j) (ho : PE X o (tI X.K B f)) (ha : PA X (e :: es) (tA X.K B r))
  (hst : starEach (e :: es) X.env = (false, eval e X.env) :: starEach es X.env := by rfl) (hpl : (backTo pos (starEach es X.env)).any (·.1) = false := by rfl)
  (ht : eval (.Call (.Attribute o (Str.ofString m) apos) (e :: es) [] pos) X.env = (do
   let ov <- eval o X.env
   standAt apos.atName
   let (f, first) <- holding [ov] (getMethod ov (Str.ofString m) pl)
   callWith pos f first (backTo pos (starEach (e :: es) X.env)) (backToKw pos (keywordEach [] X.env))) := by rfl) :
  PE X (.Call (.Attribute o (Str.ofString m) apos) (e :: es) [] pos) (tIX X.K B W (pC c m p dv f r)) := by
 obtain ⟨C, fa, fd, ps, dvs, ds, hc, hm, F, bd, vd, rd⟩ := h.ex
 intro pins s σ H Q I ⟨A, st, rs, q⟩
 unfold pC at q
 cases hf : f st with
 | exc x => rw [hf] at q; exact q.elim
 | bad => rw [hf] at q; exact q.elim
 | ok x =>
  rw [hf] at q
  cases hr' : r st with
  | exc y => rw [hr'] at q; exact q.elim
  | bad => rw [hr'] at q; exact q.elim
  | ok xs =>
   rw [hr'] at q
   cases x <;> first | exact q.elim | skip
   rename_i c' ns fs0
   by_cases hg : c' = c /\ m ∉ ns
   ·have q' : (match aH (c' = c /\ m ∉ ns) (p (.ins c' ns fs0 :: (xs ++ dv))) with
     | .ok d => ∀ v H', aP H H' -> Rep X.K (hide (A ++ B) H') d v -> Q v H'
     | .exc x => ∀ H', aP H H' -> W x σ H'
     | .bad => False) := q
    rw [aG hg] at q'
    obtain ⟨rfl, hn⟩ := hg
    refine PySem.W.methodCall_KW (pl := pl) (thn (ho pins s σ H (fun v H1 => aP H H1 /\ Rep X.K (hide (A ++ B) H1) (.ins c' ns fs0) v) I ⟨A, st, _, rs, hf, fun v H1 s1 r1 => ⟨s1, r1⟩⟩) fun u s1 ⟨y, H1, I1, rx, sm1, ry⟩ => ?_) ht
    obtain ⟨p', C', dx, fs, e2, h5, h6, h7, h8⟩ := iY.ins (.inl ry)
    have : C' = C := by have z := h6.symm.trans hc.ns; injection z with z; injection z with z; injection z
    subst this
    subst e2
    obtain rfl : u = Value.ref p' := rx
    refine xG I1 h5 hc.cl hm (lookup_none h7 hn) ?_
    refine PySem.W.callWith_K (first := [.ref p']) (h₀ := X.base) I.ok.mod.kin hm.kp (thn (ha pos pins s1 σ H1 (fun vs H2 => aP H1 H2 /\ aW X.K (hide (A ++ B) H2) xs vs) I1 ⟨A, st, xs, rs.mono sm1, hr', fun vs H2 s2 r2 => ⟨s2, r2⟩⟩) fun us s2 ⟨vs, H2, I2, rv, sm2, rp⟩ => ⟨I2.kIn, ?_⟩) hst hpl
    refine aNm (us := .ref p' :: us) (vs := .ref p' :: vs) (E := EW X W σ) F (hr.mono hk) bd vd I2 (.cons rfl rv) (aXk hL I2) ?_
    have sm := sm1.trans sm2
    refine ⟨A ++ B, _, rs.own.mono sm, .cons (ry.mono (aP.hide sm2)) (rp.append (rd _)), h.len _ fun z => ?_, ?_⟩
    ·rw [z] at q'; exact q'
    ·cases hp : p (.ins c' ns fs0 :: (xs ++ dv)) with
     | ok d => rw [hp] at q'; exact fun v H' s' r' => q' v H' (sm.trans s') r'
     | exc x => rw [hp] at q'; exact fun C c bm H' e1 hc s' => ⟨C, c, bm, rfl, hc, by rw [<- e1]; exact q' H' (sm.trans s')⟩
     | bad => rw [hp] at q'; exact q'
   ·have q' : (match aH (c' = c /\ m ∉ ns) (p (.ins c' ns fs0 :: (xs ++ dv))) with
     | .ok d => ∀ v H', aP H H' -> Rep X.K (hide (A ++ B) H') d v -> Q v H'
     | .exc x => ∀ H', aP H H' -> W x σ H'
     | .bad => False) := q
    rw [show aH (c' = c /\ m ∉ ns) (p (.ins c' ns fs0 :: (xs ++ dv))) = .bad from if_neg hg] at q'
    exact q'.elim
theorem MethOkX.of {P : Program} {w : World} {K : PySem.W.Frag} {mg : Str -> Option Value} {base : Heap} {f : Addr} {fd : FuncData} {ps : List Str} {k : Nat} {c m : String} {C : Addr} {np n : Nat} {dv : List D} {bd : Bd} {ds : List Value} {dvs : List V} (hc : ClsAt K c C) (hm : Meth K C (Str.ofString m) f) (F : FnOk P w K mg base (CX1 P w) k f fd ps (spE K np (eN np n bd))) (b : Binds K fd ps ds) (v : Vals dvs ds) (r : ∀ H, aW K H dv dvs) : MethOkX P w K mg base c m k np dv (eN np n bd) :=
 ⟨⟨C, f, fd, ps, dvs, ds, hc, hm, F, b, v, r⟩, aI9⟩
end
end Pu
namespace Pu
open PySem PySem.Spec PyProof.Rows L2
section
variable {X : Cx} {B : List Addr} {a b : Expr} {f g : Ex} {pos : Pos} {W : XW}
theorem aV3 (hu : X.A.units + 64 < cLine) (ha : PE X a (tIX X.K B W f)) (hb : PE X b (tP X.K B g)) (hs : aB8 b := by intro _ _; rfl) : PE X (.Subscript a b pos) (tIX X.K B W (e2X dIx f g)) := by
 refine cH (aO0 (aJ0.or (aGc hu)) ha hb hs) ?_
 rintro σ H Q ⟨A, st, rs, q⟩
 unfold e2X at q
 refine ⟨A, st, rs, ?_⟩
 cases hf : f st with
 | bad => rw [hf] at q; exact q
 | exc x => rw [hf] at q; exact q
 | ok x =>
  rw [hf] at q
  intro v H1 s1 r1
  cases hg : g st with
  | bad => rw [hg] at q; exact q.elim
  | exc y => rw [hg] at q; exact q.elim
  | ok y =>
   rw [hg] at q
   refine ⟨A, st, y, rs.mono s1, hg, fun u H2 s2 r2 => ?_⟩
   cases ho : dIx x y with
   | bad =>
    have q' : (match (dIx x y).nox with
     | .ok d => ∀ v H', aP H H' -> Rep X.K (hide (A ++ B) H') d v -> Q v H'
     | .exc x => ∀ H', aP H H' -> W x σ H'
     | .bad => False) := q
    rw [ho] at q'; exact q'.elim
   | exc z =>
    have q' : (match (dIx x y).nox with
     | .ok d => ∀ v H', aP H H' -> Rep X.K (hide (A ++ B) H') d v -> Q v H'
     | .exc x => ∀ H', aP H H' -> W x σ H'
     | .bad => False) := q
    rw [ho] at q'; exact q'.elim
   | ok d =>
    have q' : (match (dIx x y).nox with
     | .ok d => ∀ v H', aP H H' -> Rep X.K (hide (A ++ B) H') d v -> Q v H'
     | .exc x => ∀ H', aP H H' -> W x σ H'
     | .bad => False) := q
    rw [ho] at q'
    exact aGd (A ++ B) H2 x y d v u Q (rs.own.mono (s1.trans s2)) (.inl (r1.mono (aP.hide s2))) r2 ho fun w H' s' r' => q' w H' (s1.trans (s2.trans s')) r'
end
end Pu
namespace Pu
open PySem PySem.Spec PyProof.Rows L2 PySem.Calls Builtin Builtin.ObjectAttr Builtin.Getset_descriptor
section
variable {prog : Program} {w : World} {A : Around} {E : Value -> Shared -> Prop} {s : Shared} {K : PySem.W.Frag} {x C : Addr}
end
section
variable {X : Cx} {B : List Addr} {a : Expr} {es : List Expr} {f : Ex} {pos : Pos}
end
section
variable {X : Cx} {B : List Addr} {pins : List (Addr × Obj)} {σ : L2.St} {H : Hp} {s : Shared} {ea C : Addr}
end
end Pu
namespace Pu
open PySem PySem.Spec PyProof.Rows L2
section
variable {K : PySem.W.Frag} {h : Heap} {c : String} {C D' : Addr} {bmB : List Value} {B newId initId : String}
theorem yX (F : ExcBaseFacts B newId initId bmB) (a : PySem.W.nsIn K mainGlobals (Str.ofString c) = some (some (.ref C))) (q : PySem.W.excIn K C bmB newId = true) (g1 : PySem.W.findIn K (.ref C) "__getattribute__" = some (some (.builtin "BaseException.__getattribute__"))) (g6 : PySem.W.findIn K (.ref C) "__getattr__" = some none) (g7 : PySem.W.mroIn K C (.type "BaseException") = some true) (g2 : PySem.W.findIn K (.ref C) "__class__" = some (some (.builtin "object.__class__")))
  (g3 : PySem.W.specialIn K (.builtin "object.__class__") "__get__" = some (some (.builtin "getset_descriptor.__get__"))) (g4 : PySem.W.takesIn K (.builtin "object.__class__") = some true) (g5 : PySem.W.mroIn K C (.type "object") = some true) : ∃ bm, ExcAt K c C bm := by
 have cl : (PySem.W.clsIn K C).isSome = true := by
  unfold PySem.W.mroIn at g5
  cases e : PySem.W.clsIn K C with
  | none => rw [e] at g5; cases g5
  | some cd => rfl
 have ic : ExcCl K C := ⟨g1, g6, g7, cl, g2, g3, g4, g5⟩
 unfold PySem.W.excIn at q
 split at q
 ·rename_i dd cd sl ho
  split at q
  ·rename_i C' bm k0 k1 k2 k3 n k5 hm hsl
   simp only [Bool.not_eq_true', beq_iff_eq, Bool.and_eq_true] at q
   obtain ⟨⟨⟨⟨⟨e1, e2⟩, e3⟩, e4⟩, e5⟩, e6⟩ := q
   refine ⟨bm, a, ⟨B, newId, initId, bmB, F, fun h kin => ?_⟩, ic⟩
   obtain ⟨nm, bs, mro, ns, qn, hd, sn, sub, ab, col, del⟩ := cd
   dsimp only at hm e3 e5 e6
   have hsl' : sl = #[k0, k1, k2, k3, some (.builtin n), k5] := by rw [<- Array.toArray_toList (xs := sl), hsl]
   subst hsl'
   subst e1 e2 e3 hm
   exact ⟨ns, nm, qn, bs, hd, sn, sub, ab, col, dd, k0, k1, k2, k3, k5, h.nsMap ns, kin _ _ ho, .of_isNs (PySem.W.isNs_of_in kin e5), PySem.W.nsMap_none_of_in kin e5 e6, PySem.W.tail_of_in kin e4⟩
  ·cases q
 ·cases q
end
section
variable {P : Program} {w : World} {K : PySem.W.Frag} {mg : Str -> Option Value} {base : Heap} {f : Addr} {fd : FuncData} {ps : List Str} {k : Nat}
theorem MakeOk.of {c : String} {C : Addr} {np n : Nat} {bd : Bd} (hc : ClsAt K c C) (hm : Mk K C f) (F : FnOk P w K mg base CX0 k f fd ps (spM K c np (aBi c np n bd))) (b : Binds K fd ps []) (m : mg (Str.ofString c) = some (.ref C)) : MakeOk P w K mg base c k np (aBi c np n bd) :=
 ⟨⟨C, f, fd, ps, hc, hm, F, b, m⟩, aL3⟩
end
section
variable {α : Type} {P : List α -> Prop}
theorem aNn (h : P []) (us : List α) (hl : us.length = 0) : P us := by rw [List.length_eq_zero_iff.mp hl]; exact h
theorem aC9 {n : Nat} (h : ∀ a us, us.length = n -> P (a :: us)) (us : List α) (hl : us.length = n + 1) : P us := by
 cases us with
 | nil => cases hl
 | cons a us => exact h a us (Nat.succ.inj hl)
theorem qD (h : ∀ a, P [a]) (us : List α) (hl : us.length = 1) : P us := aC9 (fun a => aNn (h a)) us hl
theorem gO (h : ∀ a b, P [a, b]) (us : List α) (hl : us.length = 2) : P us := aC9 (fun a => qD (P := fun us => P (a :: us)) (h a)) us hl
theorem kY (h : ∀ a b c, P [a, b, c]) (us : List α) (hl : us.length = 3) : P us := aC9 (fun a => gO (P := fun us => P (a :: us)) (h a)) us hl
end
end Pu
namespace Pu
open PySem PySem.Spec PyProof.Rows L2
section
variable {X : Cx} {B : List Addr} {a b e o : Expr} {es : List Expr} {f g : Ex} {r : Exs} {pos cpos apos : Pos}
end
end Pu
namespace Pu
open PySem PySem.Spec PyProof.Rows L2
def Inn (K : PySem.W.Frag) (G H : Hp) : List (List D) -> List Addr -> Prop
 | [], ps => ps = []
 | xs :: xss, ps => ∃ p r vs, ps = p :: r /\ H p = some (.lst vs) /\ aW K G xs vs /\ Inn K G H xss r
section
variable {X : Cx} {B : List Addr} {a b e o : Expr} {f g : Ex} {pos : Pos} {sm : Stmt} {rest : List Stmt} {i : Nat} {na nb : NB} {bd : Bd}
end
end Pu
namespace Pu
open PySem PySem.Spec PyProof.Rows L2
def tSF (K : PySem.W.Frag) (B : List Addr) (i : Nat) (b : Bd) : TS := fun Dn σ H => ∃ A st st' xs, RS K B A H st σ /\ b st = .ok (.nx st') /\ st'[i]? = some (some (.o .l xs)) /\ ∀ A' a vs H', Le A H A' H' -> a ∈ A' -> H' a = some (.lst vs) -> aW K (hide (A' ++ B) H') xs vs -> Dn.rt (.ref a) H'
def spF (K : PySem.W.Frag) (np : Nat) (p : List D -> R D) : Sp := fun vs H Q _ => ∃ A ds xs, Own A H /\ aW K (hide A H) ds vs /\ ds.length = np /\ p ds = .ok (.lst xs) /\ ∀ a ws H', aP H H' -> H a = none -> H' a = some (.lst ws) -> aW K (hide (a :: A) H') xs ws -> Q (.ref a) H'
section
variable {X : Cx} {B : List Addr} {e o : Expr} {f g : Ex} {pos : Pos} {sm : Stmt} {rest : List Stmt} {bd bd' : Bd} {i : Nat}
theorem aGv (h1 : PS X sm (tS X.K B bd)) (h2 : PSs X rest (tSF X.K B i bd')) : PSs X (sm :: rest) (tSF X.K B i (bQ bd bd')) := lW (rW h1 h2) (by
 rintro Dn σ H ⟨A, st, st', xs, rs, hb, hi, q⟩
 unfold bQ xN at hb
 obtain ⟨fl, hfl, h3⟩ := R.ok_of hb
 refine ⟨A, st, fl, rs, hfl, ?_⟩
 cases fl with
 | nx s1 => exact fun A' σ' H' l rs' => ⟨A', s1, st', xs, rs', h3, hi, fun A2 a vs H2 l2 => q A2 a vs H2 (l.trans l2)⟩
 | rt d => cases h3
 | bk s1 => cases h3
 | ct s1 => cases h3)
theorem aRn {x : Str} {p1 : Pos} (hN : X.N[i]? = some x := by rfl) (hv : Vis X.env.scope x := by first | exact Or.inl rfl | exact Or.inr (Or.inl rfl) | exact Or.inr (Or.inr rfl)) (hd : (x == ("__debug__" : Str)) = false := by decide) (hcd : (x == ("__classdict__" : Str)) = false := by decide) :
  PSs X [.Return (some (.Name x p1)) pos] (tSF X.K B i dG) := lW (wK (aE5 (oU hN hv hd hcd))) (by
 rintro Dn σ H ⟨A, st, st', xs, rs, hb, hi, q⟩
 cases hb
 obtain ⟨a, o, vs, e1, m, h1, ko, r, _⟩ := rs.lst i .l xs hi
 have eo : o = .lst vs := ko
 subst eo
 exact ⟨.ref a, e1, q A a vs H Le.refl m h1 r⟩)
end
section
variable {P : Program} {w : World} {K : PySem.W.Frag} {mg : Str -> Option Value} {base : Heap} {x qual : Str} {st : Stmt} {dV : Value} {f : Addr} {fd : FuncData} {N ps : List Str} {k : Nat}
theorem aXl (F : FunD K x qual st dV f fd) (S : FnScope N ps (aF st)) (np n i : Nat) (bd : Bd) (hnp : ps.length = np) (hn : N.length = n)
  (hb : ∀ (cdv : Value) (A : Around) (outer : List Env) (s : Shared) (H : Hp) (E : XK) (B : List Addr), Room k (A.deeper (envOfC qual (aF st) s.heap.objs.size f cdv)) ->
   PSs (rZ CX0 P w K mg base N qual (aF st) f cdv A outer s H E).nox (bD st) (tSF K B i bd)) : FnOk P w K mg base CX0 (k + 1) f fd ps (spF K np (eN np n (sS bd i))) := by
 refine F.okX S (fun vs H Q E h => ?_) (fun cdv A outer s H vs Q E hr h => ?_)
 ·obtain ⟨A, ds, d, own, r, hl, _⟩ := h
  rw [r.length, hl, hnp]
 ·obtain ⟨B, ds, xs, own, r, hl, hp, q⟩ := h
  refine ⟨tSF K B i bd, hb cdv A outer s H E B hr, ?_⟩
  obtain ⟨_, h2⟩ := aJ hp
  obtain ⟨fl, hfl, h3⟩ := R.ok_of h2
  have rs := tY (N := N) own r
  rw [hl, hn] at rs
  unfold sS at hfl
  split at hfl
  ·rename_i s1 hf1
   unfold aJk at hfl
   split at hfl
   ·rename_i e1
    cases hfl
    cases h3
    refine ⟨[], _, s1, _, rs, hf1, e1, fun A' a vs' H' l ha hv rv => ?_⟩
    have sm : aP H H' := by
     unfold Le at l
     rw [lM] at l
     exact l.trans (aX _ _)
    refine q a vs' H' sm ?_ hv (rv.mono (dI fun b hb => ?_))
    ·cases hH : H a with
     | none => rfl
     | some o =>
      have z := l a o (by rw [lM]; exact hH)
      rw [dY ha] at z; cases z
    ·rcases List.mem_cons.mp hb with rfl | hb
     ·exact List.mem_append_left _ ha
     ·exact List.mem_append_right _ hb
   ·cases hfl
  ·cases hfl
theorem aIa {np n i : Nat} {bd : Bd} {ds : List D} {d : D} (h : eN np n (sS bd i) ds = .ok d) : ∃ xs, d = .lst xs := by
 obtain ⟨_, h2⟩ := aJ h
 obtain ⟨fl, hfl, h3⟩ := R.ok_of h2
 unfold sS at hfl
 split at hfl
 ·unfold aJk at hfl
  split at hfl
  ·cases hfl; cases h3; exact ⟨_, rfl⟩
  ·cases hfl
 ·cases hfl
theorem aAy {p : List D -> R D} (hp : ∀ ds d, p ds = .ok d -> ∃ xs, d = .lst xs) {np : Nat} (F : FnOk P w K mg base CX0 k f fd ps (spF K np p)) : FnOk P w K mg base CX0 k f fd ps (spI K np p) := by
 have up : ∀ vs H Q E, spI K np p vs H Q E -> spF K np p vs H Q E := by
  rintro vs H Q E ⟨A, ds, d, own, r, hl, he, q⟩
  obtain ⟨xs, rfl⟩ := hp ds d he
  refine ⟨A, ds, xs, own, r, hl, he, fun a ws H' sm ha hv rv => q _ H' sm (bL.mpr ⟨a, ws, rfl, SqL.of (by rw [bO (own.free ha)]; exact hv), rv.mono (dI fun b hb => List.mem_cons_of_mem _ hb)⟩)⟩
 exact ⟨fun vs H Q E h => F.len vs H Q E (up vs H Q E h), fun A outer s H args us vs Q E hr e0 hb hv h => F.run A outer s H args us vs Q E hr e0 hb hv (up vs H Q E h)⟩
end
structure MethOkF (P : Program) (w : World) (K : PySem.W.Frag) (mg : Str -> Option Value) (base : Heap) (c m : String) (k np : Nat) (dv : List D) (p : List D -> R D) : Prop where
 ex : ∃ (C fa : Addr) (fd : FuncData) (ps : List Str) (dvs : List V) (ds : List Value), ClsAt K c C /\ Meth K C (Str.ofString m) fa /\ FnOk P w K mg base CX0 k fa fd ps (spF K np p) /\ Binds K fd ps ds /\ Vals dvs ds /\ ∀ H, aW K H dv dvs
 len : ∀ ds d, p ds = .ok d -> ds.length = np
 lst : ∀ ds d, p ds = .ok d -> ∃ xs, d = .lst xs
theorem MethOkF.of {P : Program} {w : World} {K : PySem.W.Frag} {mg : Str -> Option Value} {base : Heap} {k : Nat} {f : Addr} {fd : FuncData} {ps : List Str} {c m : String} {C : Addr} {np n i : Nat} {dv : List D} {bd : Bd} {ds : List Value} {dvs : List V} (hc : ClsAt K c C) (hm : Meth K C (Str.ofString m) f) (F : FnOk P w K mg base CX0 k f fd ps (spF K np (eN np n (sS bd i)))) (b : Binds K fd ps ds) (v : Vals dvs ds) (r : ∀ H, aW K H dv dvs) : MethOkF P w K mg base c m k np dv (eN np n (sS bd i)) :=
 ⟨⟨C, f, fd, ps, dvs, ds, hc, hm, F, b, v, r⟩, cO, fun _ _ h => aIa h⟩
theorem MethOkF.plain {P : Program} {w : World} {K : PySem.W.Frag} {mg : Str -> Option Value} {base : Heap} {c m : String} {k np : Nat} {dv : List D} {p : List D -> R D} (h : MethOkF P w K mg base c m k np dv p) : MethOk P w K mg base c m k np dv p := by
 obtain ⟨C, fa, fd, ps, dvs, ds, hc, hm, F, b, v, r⟩ := h.ex
 exact ⟨⟨C, fa, fd, ps, dvs, ds, hc, hm, aAy h.lst F, b, v, r⟩, h.len⟩
section
variable {X : Cx} {B : List Addr} {e o : Expr} {f g : Ex} {pos : Pos}
theorem aRo {c m : String} {k j np : Nat} {dv : List D} {p : List D -> R D} {es : List Expr} {r : Exs} {apos : Pos} {pl : Sem Bool} (h : MethOkF X.prog X.w X.K X.mg X.base c m k np dv p) (hr : Room j X.A) (hk : k <= j) (ho : PE X o (tI X.K B f)) (ha : PA X (e :: es) (tA X.K B r))
  (hst : starEach (e :: es) X.env = (false, eval e X.env) :: starEach es X.env := by rfl) (hpl : (backTo pos (starEach es X.env)).any (·.1) = false := by rfl)
  (ht : eval (.Call (.Attribute o (Str.ofString m) apos) (e :: es) [] pos) X.env = (do
   let ov <- eval o X.env
   standAt apos.atName
   let (f, first) <- holding [ov] (getMethod ov (Str.ofString m) pl)
   callWith pos f first (backTo pos (starEach (e :: es) X.env)) (backToKw pos (keywordEach [] X.env))) := by rfl) :
  PE X (.Call (.Attribute o (Str.ofString m) apos) (e :: es) [] pos) (tF X.K B (pB c m p dv f r)) := by
 obtain ⟨C, fa, fd, ps, dvs, ds, hc, hm, F, bd, vd, rd⟩ := h.ex
 refine cH (aFi (pl := pl) ho hc.cl hm F (hr.mono hk) bd vd zV ha hst hpl ht) ?_
 rintro σ H Q ⟨A, st, xs, rs, hd, q⟩
 obtain ⟨x, hx, h2⟩ := R.ok_of hd
 obtain ⟨ys, hxs, h3⟩ := R.ok_of h2
 refine ⟨A, st, x, rs, hx, fun v H1 s1 r1 => ?_⟩
 cases x <;> first | (cases h3; done) | skip
 obtain ⟨⟨e1, hn⟩, h4⟩ := aJ h3
 subst e1
 obtain ⟨p', C', dx, fs, e2, h5, h6, h7, h8⟩ := iY.ins (.inl r1)
 have : C' = C := by have z := h6.symm.trans hc.ns; injection z with z; injection z with z; injection z
 subst this
 refine ⟨p', dx, fs, e2, h5, lookup_none h7 hn, A, st, ys, rs.mono s1, hxs, fun vs H2 s2 r2 => ?_⟩
 refine ⟨A ++ B, _, xs, rs.own.mono (s1.trans s2), .cons (r1.mono (aP.hide s2)) (r2.append (rd _)), h.len _ _ h4, h4, fun a ws H' s' ha' hv rv => ?_⟩
 have e0 : upd (hide [a] H') a (.lst ws) = H' := by
  funext b
  by_cases hb : b = a
  ·subst hb; rw [bV]; exact hv.symm
  ·rw [bG hb, bO (by simpa using hb)]
 have z := q a ws (hide [a] H') (fun b u hz => ?_) (dY (by simp)) ?_
 ·rw [e0] at z; exact z
 ·have hz2 := s2 _ _ (s1 _ _ hz)
  rw [bO (by simpa using aU hz2 ha')]
  exact s' _ _ hz2
 ·refine rv.mono fun b u hz => ?_
  have hb : b ∉ a :: (A ++ B) := fun y => by rw [dY y] at hz; cases hz
  rw [bO fun y => hb (List.mem_cons_of_mem _ y), bO (by simpa using fun y => hb (by rw [y]; exact List.mem_cons_self))]
  exact aX _ _ _ _ hz
end
end Pu
namespace Pu
open PySem PySem.Spec PyProof.Rows L2
section
variable {X : Cx} {B : List Addr} {a : Expr} {f : Ex} {pos : Pos}
end
end Pu
namespace Pu
open PySem PySem.Spec PyProof.Rows L2
section
variable {X : Cx} {B : List Addr} {e e1 e2 o : Expr} {f g : Ex} {pos : Pos} {sm : Stmt} {rest : List Stmt} {bd bd' : Bd} {W : XW} {s1 : Bool}
end
section
variable {P : Program} {w : World} {K : PySem.W.Frag} {mg : Str -> Option Value} {base : Heap} {x qual : Str} {st : Stmt} {dV : Value} {fa : Addr} {fd : FuncData} {N ps : List Str} {k np n : Nat} {bd : Bd} {f : Ex} {p : List D -> R D}
end
section
variable {X : Cx} {B : List Addr} {e e1 e2 o : Expr} {f g : Ex} {pos : Pos}
end
def aDu (K : PySem.W.Frag) (A : List Addr) (H : Hp) : List D -> List V -> Prop
 | [], vs => vs = []
 | d :: ds, vs => ∃ v r, vs = v :: r /\ iY K A H d v /\ aDu K A H ds r
theorem aDu.borrow {K : PySem.W.Frag} {A : List Addr} {H : Hp} : ∀ {ds : List D} {vs : List V}, aDu K A H ds vs -> ∃ A', (∀ c ∈ A', c ∈ A) /\ aW K (hide A' H) ds vs
 | [], vs, h => ⟨A, fun _ z => z, by have : vs = [] := h; subst this; exact .nil⟩
 | d :: ds, vs, h => by
  obtain ⟨v, r, rfl, h1, h2⟩ := h
  obtain ⟨A', s', r'⟩ := aDu.borrow h2
  rcases h1 with h1 | ⟨a, k, o, xs, ws, rfl, rfl, ha, ko, rx⟩
  ·exact ⟨A', s', .cons (h1.mono (dI s')) r'⟩
  ·have hsub : ∀ c ∈ A'.filter (fun c => decide (c ≠ a)), c ∈ A' := fun c hc => (List.mem_filter.mp hc).1
   have hout : a ∉ A'.filter (fun c => decide (c ≠ a)) := fun z => of_decide_eq_true (List.mem_filter.mp z).2 rfl
   exact ⟨A'.filter fun c => decide (c ≠ a), fun c hc => s' c (hsub c hc), .cons (ko.rep (by rw [bO hout]; exact ha) (rx.mono (dI fun c hc => s' c (hsub c hc)))) (r'.mono (dI hsub))⟩
def tAP (K : PySem.W.Frag) (B : List Addr) (f : Exs) : TA := fun σ H Q => ∃ A st ds, RS K B A H st σ /\ f st = .ok ds /\ ∀ vs H', aP H H' -> aDu K (A ++ B) H' ds vs -> Q vs H'
section
variable {X : Cx} {B : List Addr} {e o : Expr} {f g : Ex} {pos : Pos}
theorem aV4 : PA X [] (tAP X.K B bJ) := aBy fK (by
 rintro σ H Q ⟨A, st, d, rs, hd, q⟩
 cases hd
 exact q [] H (aP.refl _) rfl)
theorem aL9 {es : List Expr} {r : Exs} (ha : PE X e (tP X.K B f)) (hr : PA X es (tAP X.K B r)) (hs : starEach (e :: es) X.env = (false, eval e X.env) :: starEach es X.env := by rfl) : PA X (e :: es) (tAP X.K B (aC f r)) := by
 refine aBy (cW ha hr hs) ?_
 rintro σ H Q ⟨A, st, ds, rs, hd, q⟩
 obtain ⟨x, hx, h2⟩ := R.ok_of hd
 obtain ⟨xs, hxs, h3⟩ := R.ok_of h2
 cases h3
 refine ⟨A, st, x, rs, hx, fun v H1 s1 r1 => ⟨A, st, xs, rs.mono s1, hxs, fun vs H2 s2 r2 => ?_⟩⟩
 exact q _ H2 (s1.trans s2) ⟨v, vs, rfl, r1.mono s2, r2⟩
theorem aNo {x : Str} {k j np : Nat} {p : List D -> R D} {es : List Expr} {r : Exs} {p0 : Pos} (h : DefOk X.prog X.w X.K X.mg X.base x k np p) (hr : Room j X.A) (hk : k <= j) (ha : PA X (e :: es) (tAP X.K B r)) (hg : Gl X x := by rfl) (hdb : (x == ("__debug__" : Str)) = false := by decide)
  (he : starEach (e :: es) X.env = (false, eval e X.env) :: starEach es X.env := by rfl) (hpl : (backTo pos (starEach es X.env)).any (·.1) = false := by rfl) : PE X (.Call (.Name x p0) (e :: es) [] pos) (tI X.K B (aJl p r)) := by
 obtain ⟨fa, fd, ps, F, m, kp, bd⟩ := h.ex
 refine cH (aB6 F (hr.mono hk) hg m kp bd .nil zV ha hdb he hpl) ?_
 rintro σ H Q ⟨A, st, d, rs, hd, q⟩
 obtain ⟨xs, hx, h2⟩ := R.ok_of hd
 obtain ⟨d', hd', h3⟩ := R.ok_of h2
 cases d' <;> first | (cases h3; done) | skip
 cases h3
 refine ⟨A, st, xs, rs, hx, fun vs H1 s1 r1 => ?_⟩
 show spI X.K np p (vs ++ []) H1 Q E0
 rw [List.append_nil]
 obtain ⟨A', s', r'⟩ := r1.borrow
 exact ⟨A', xs, _, fun c hc => (rs.own.mono s1) c (s' c hc), r', h.len _ _ hd', hd', fun w H' s' rw' => q w H' (s1.trans s') (bA.mpr (bA.mp rw'))⟩
end
end Pu
namespace Pu
open PySem PySem.Spec PyProof.Rows L2
section
variable {X : Cx} {B : List Addr} {a b e : Expr} {f g : Ex} {pos : Pos}
def rClear : V -> List V -> Hp -> VK -> Prop := fun x vs H Q => ∃ l xs, x = .ref l /\ vs = [] /\ H l = some (.lst xs) /\ Q .non (upd H l (.lst []))
theorem mt_clear : MtM X "list.clear" rClear := by
 intro pins s σ H x vs v us Q I rx rv h
 obtain ⟨l, xs, rfl, rfl, hH, q⟩ := h
 cases rx
 have hus := rv.zero
 subst hus
 obtain ⟨z, its, n, r, hl, e⟩ := I.lstM hH
 refine call_meets PySem.F.slot_list_clear ⟨_, e, rfl⟩ PySem.F.entry_list_clear (PySem.F.args_list_clear_1 _) (PySem.AutoSeq1.list_clear_list_0 l its.toArray n (by rw [List.size_toArray]; omega)) ⟨e, ?_⟩
 exact ⟨.non, _, I.lset (its' := []) hH e (by simp) .nil (by simp), rfl, q⟩
theorem aV5 (i : Nat) {x : Str} {p1 apos cpos : Pos} (hN : X.N[i]? = some x := by rfl) (hv : Vis X.env.scope x := by first | exact Or.inl rfl | exact Or.inr (Or.inl rfl) | exact Or.inr (Or.inr rfl)) (hd : (x == ("__debug__" : Str)) = false := by decide)
  (hcd : (x == ("__classdict__" : Str)) = false := by decide) (hbase : attributeBase (.Name x p1) "clear" X.env (eval (.Name x p1) X.env) = eval (.Name x p1) X.env := by rfl) (hline : (apos.endLine == cpos.line) = true := by rfl)
  (hsw : swapsWith (.Call (.Attribute (.Name x p1) "clear" apos) [] [] cpos) none pos.line X.env = pure false := by rfl) :
  PS X (.Expr (.Call (.Attribute (.Name x p1) "clear" apos) [] [] cpos) pos) (tS X.K B (aQi i)) := by
 refine dU (wL (aJ2 PySem.F.plainAttrs_list PySem.F.slot_list_clear PySem.F.type_list_clear mt_clear (oU hN hv hd hcd) hbase hline) hsw) ?_
 rintro Dn σ H ⟨A, st, r, rs, hr, p⟩
 unfold aQi at hr
 split at hr
 ·rename_i xs e1
  cases hr
  obtain ⟨l, o, vs, e2, m, h1, ko, q, u⟩ := rs.lst i _ xs e1
  have eo : o = .lst vs := ko
  subst eo
  refine ⟨.ref l, e2, .inl ⟨rfl, vs, SqL.of h1⟩, l, vs, rfl, rfl, h1, ?_⟩
  obtain ⟨w1, w2⟩ := rs.write e1 e2 (k1 := .l) (ds := []) (vs' := []) rfl .nil
  exact p A _ _ w2 w1
 ·cases hr
end
end Pu
namespace Pu
open PySem PySem.Spec PyProof.Rows L2
def noH : Hp := fun _ => none
theorem aNp {H : Hp} : aP noH H := fun _ _ h => nomatch h
theorem aLa {K : PySem.W.Frag} {H : Hp} {d : D} {v : V} (h : atom d = true) (r : Rep K H d v) : Rep K noH d v := by
 cases d <;> first | (cases h; done) | skip
 ·exact bU.mpr (bU.mp r)
 ·exact bA.mpr (bA.mp r)
 ·exact aN.mpr (aN.mp r)
 ·exact aR.mpr (aR.mp r)
def tC (K : PySem.W.Frag) (B : List Addr) (f : Ex) : TE := fun σ H Q => ∃ A st d xs, RS K B A H st σ /\ f st = .ok d /\ aQj d = .ok (.lst xs) /\ ∀ P ps H', aP H H' -> (∀ p ∈ P :: ps, H p = none) -> (P :: ps).Nodup -> H' P = some (.lst (ps.map V.ref)) -> Inn K noH H' (xs.map unL) ps -> Q (.ref P) H'
section
variable {X : Cx} {B : List Addr} {scope : Scope} {iter : Expr} {pos pl p0 p1 p2 : Pos} {f : Ex} {r : Str} {j : Nat}
end
end Pu
namespace Pu
open PySem PySem.Spec PyProof.Rows L2
section
variable {X : Cx} {pos p0 p1 : Pos} {r : Str}
end
end Pu
namespace Pu
open PySem PySem.Spec PyProof.Rows L2
section
variable {X : Cx} {a b e o : Expr} {f g : Ex} {pos : Pos} {sm : Stmt} {rest : List Stmt} {bd bd' : Bd} {W : XW} {H0 : Hp} {x : Addr}
end
section
variable {X : Cx} {B : List Addr} {a b e o : Expr} {f g : Ex} {pos : Pos} {W : XW}
end
end Pu
namespace Pu
open PySem PySem.Spec PyProof.Rows L2
section
variable {K : PySem.W.Frag} {B A Z : List Addr} {H H' : Hp} {st : PSt} {σ : LSt}
end
section
variable {X : Cx} {B : List Addr} {a b e o : Expr} {f g : Ex} {pos : Pos} {sm : Stmt} {rest : List Stmt} {i : Nat} {na nb : NB} {bd : Bd}
end
section
variable {X : Cx} {B : List Addr} {scope : Scope} {iter : Expr} {pos pl p0 p1 p2 : Pos} {f : Ex} {r : Str} {rest : List Stmt} {i : Nat} {nb : NB}
end
end Pu
namespace Pu
open PySem PySem.Spec PyProof.Rows L2
open Builtin
section
variable {prog : Program} {w : World} {A : Around} {E : Value -> Shared -> Prop} {s : Shared}
variable {z TI TO i1 i2 l : Addr} {fp : List Addr} {n k1 k2 : Nat} {P : Nat -> Value -> Prop} {St : Nat -> Heap -> Prop} {ys : Array Value} {y a b : Value}
structure ZApart (z TI TO i1 i2 l : Addr) (fp : List Addr) : Prop where
 TIz : TI ≠ z
 TOz : TO ≠ z
 i1z : i1 ≠ z
 i2z : i2 ≠ z
 TITO : TI ≠ TO
 TIi1 : TI ≠ i1
 TIi2 : TI ≠ i2
 TOi1 : TO ≠ i1
 TOi2 : TO ≠ i2
 i12 : i1 ≠ i2
 lz : l ≠ z
 lTO : l ≠ TO
 li1 : l ≠ i1
 li2 : l ≠ i2
 zf : z ∉ fp
 Tf : TO ∉ fp
 i2f : i2 ∉ fp
theorem aF7 {n l : Nat} (h : l < n) : ZApart (n + 4) (n + 2) (n + 3) n (n + 1) l [n] := by
 constructor
 ·show n + 2 ≠ n + 4; omega
 ·show n + 3 ≠ n + 4; omega
 ·show n ≠ n + 4; omega
 ·show n + 1 ≠ n + 4; omega
 ·show n + 2 ≠ n + 3; omega
 ·show n + 2 ≠ n; omega
 ·show n + 2 ≠ n + 1; omega
 ·show n + 3 ≠ n; omega
 ·show n + 3 ≠ n + 1; omega
 ·show n ≠ n + 1; omega
 ·show l ≠ n + 4; omega
 ·show l ≠ n + 3; omega
 ·show l ≠ n; omega
 ·show l ≠ n + 1; omega
 ·intro z
  have : n + 4 = n := List.mem_singleton.mp z
  omega
 ·intro z
  have : n + 3 = n := List.mem_singleton.mp z
  omega
 ·intro z
  have : n + 1 = n := List.mem_singleton.mp z
  omega
theorem aLb (D1 : Draws prog w A i1 fp n P St) (D : ZApart z TI TO i1 i2 l fp)
  (hz : IsZip s.heap z TI TO .none) (hTI : IsPair s.heap TI (.ref i1) (.ref i2)) (hTO : IsPair s.heap TO a b)
  (h1 : St k1 s.heap) (hk1 : k1 < n) (h2 : s.heap.IsListIter i2 l k2) (hl : s.heap.IsList l ys) (hy : ys[k2]? = some y) {Q : Value -> Shared -> Prop}
  (hQ : ∀ h' tk x, P k1 x -> IsZip h' z TI TO (rawInt s.heap.objs.size) -> IsPair h' TO x y -> St (k1 + 1) h' -> h'.IsListIter i2 l (k2 + 1) -> IsPair h' s.heap.objs.size x y -> h'.objs.size = s.heap.objs.size + 1 ->
   (∀ c o, c ≠ z -> c ≠ TO -> c ≠ i1 -> c ≠ i2 -> s.heap.get? c = some o -> h'.get? c = some o) -> Q (.ref s.heap.objs.size) { s with heap := h', toks := tk }) :
  wpAny (model prog w) A (Builtin.«zip.__next__» ⟨[.ref z], []⟩) (fun fin s' => ∃ v, fin = .done (.ret v) /\ Q v s') E s := by
 show wpAny _ _ (field (.ref z) 2 >>= _) _ _ _
 refine wpAny_bind (wpAny_field hz rfl (x := .bool false) rfl ?_)
 show wpAny _ _ (field (.ref z) 3 >>= _) _ _ _
 refine wpAny_bind (wpAny_field hz rfl (x := .ref TI) rfl ?_)
 refine wpAny_bind (wpAny_seqItems hTI rfl ?_)
 show wpAny _ _ (Builtin.SmallTypes.ownedTupleIsFree (.ref z) >>= _) _ _ _
 refine wpAny_bind ?_
 unfold Builtin.SmallTypes.ownedTupleIsFree
 refine wpAny_bind (wpAny_field hz rfl (x := .none) rfl (wpAny_pure ?_))
 simp only [if_true]
 refine wpAny_bind (wpAny_rule ?_)
 refine wpAny_bind (wpAny_field hz rfl (x := .ref TO) rfl ?_)
 refine wpAny_bind (wpAny_setField_rec hz (by simp) fun h₁ hz₁ hs₁ => ?_)
 replace hz₁ : IsZip h₁ z TI TO .ellipsis := hz₁
 refine wpAny_bind ?_
 simp only [List.zipIdx_cons, List.zipIdx_nil, List.forIn_cons, List.forIn_nil]
 refine wpAny_bind (wpAny_bind (wpAny_onRaise ?_))
 show wpAny _ _ (Builtin.SmallTypes.nextOf (.ref i1) >>= _) _ _ _
 refine wpAny_bind (D1.item k1 { s with heap := h₁ } _ _ hk1 (D1.frame k1 s.heap h₁ h1 fun b hb o e => hs₁.extBut _ _ (fun x => D.zf (x ▸ hb)) e) fun x h₂ tk hP h1₂ hs₂ => wpAny_pure ?_)
 have hs₂ : Heap.SameBut i1 h₁ h₂ := hs₂
 have hTO₂ : IsPair h₂ TO a b := hs₂.extBut _ _ D.TOi1 (hs₁.extBut _ _ D.TOz hTO)
 refine wpAny_bind (wpAny_seqItems hTO₂ rfl ?_)
 refine wpAny_bind (wpAny_updateSeq_pair hTO₂ fun h₃ hTO₃ hs₃ => ?_)
 replace hTO₃ : IsPair h₃ TO x b := hTO₃
 refine wpAny_bind (wpAny_letGo (wpAny_pure ?_))
 refine wpAny_bind (wpAny_bind (wpAny_onRaise ?_))
 show wpAny _ _ (Builtin.SmallTypes.nextOf (.ref i2) >>= _) _ _ _
 refine wpAny_bind (wpAny_nextOf_list_item (((h2.extBut hs₁.extBut D.i2z).extBut hs₂.extBut D.i12.symm).extBut hs₃.extBut D.TOi2.symm)
  (((hl.extBut hs₁.extBut D.lz).extBut hs₂.extBut D.li1).extBut hs₃.extBut D.lTO) hy fun h₄ h2₄ hs₄ => wpAny_pure ?_)
 have hTO₄ : IsPair h₄ TO x b := hs₄.extBut _ _ D.TOi2 hTO₃
 refine wpAny_bind (wpAny_seqItems hTO₄ rfl ?_)
 refine wpAny_bind (wpAny_updateSeq_pair hTO₄ fun h₅ hTO₅ hs₅ => ?_)
 replace hTO₅ : IsPair h₅ TO x y := hTO₅
 refine wpAny_bind (wpAny_letGo (wpAny_pure (wpAny_pure ?_)))
 refine wpAny_bind (wpAny_seqItems hTO₅ rfl ?_)
 refine wpAny_bind (wpAny_newTuple ?_)
 have hs₃' : Heap.SameBut TO h₂ h₃ := hs₃
 have hs₄' : Heap.SameBut i2 h₃ h₄ := hs₄
 have hs₅' : Heap.SameBut TO h₄ h₅ := hs₅
 have hsz : h₅.objs.size = s.heap.objs.size := by rw [hs₅'.1, hs₄'.1, hs₃'.1, hs₂.1, hs₁.1]
 have hz₅ : IsZip h₅ z TI TO .ellipsis := hs₅'.extBut _ _ D.TOz.symm (hs₄'.extBut _ _ D.i2z.symm (hs₃'.extBut _ _ D.TOz.symm (hs₂.extBut _ _ D.i1z.symm hz₁)))
 have hk₅ : ∀ c o, c ≠ z -> c ≠ TO -> c ≠ i1 -> c ≠ i2 -> s.heap.get? c = some o -> h₅.get? c = some o := fun c o c1 c2 c3 c4 e =>
  hs₅'.extBut _ _ c2 (hs₄'.extBut _ _ c4 (hs₃'.extBut _ _ c2 (hs₂.extBut _ _ c3 (hs₁.extBut _ _ c1 e))))
 have h1₅ : St (k1 + 1) h₅ := D1.frame _ h₂ h₅ h1₂ fun b hb o e => hs₅'.extBut _ _ (fun x => D.Tf (x ▸ hb)) (hs₄'.extBut _ _ (fun x => D.i2f (x ▸ hb)) (hs₃'.extBut _ _ (fun x => D.Tf (x ▸ hb)) e))
 have h2₅ : h₅.IsListIter i2 l (k2 + 1) := h2₄.extBut hs₅'.extBut D.TOi2.symm
 have hzlt : z < h₅.objs.size := Heap.lt_size hz₅
 show wpAny _ _ (Builtin.SmallTypes.ownedTupleHandOut (.ref z) (.ref h₅.objs.size) >>= _) _ _ _
 refine wpAny_bind ?_
 unfold Builtin.SmallTypes.ownedTupleHandOut
 have hz₆ : IsZip (h₅.push { cls := .type "tuple", data := .seq #[x, y] }) z TI TO .ellipsis := Heap.get?_push_of_some _ hz₅
 refine wpAny_bind (wpAny_setField_rec hz₆ (by simp) fun h₇ hz₇ hs₇ => ?_)
 replace hz₇ : IsZip h₇ z TI TO (rawInt h₅.objs.size) := hz₇
 refine wpAny_setField_rec hz₇ (by simp) fun h₈ hz₈ hs₈ => ?_
 replace hz₈ : IsZip h₈ z TI TO (rawInt h₅.objs.size) := hz₈
 have up : ∀ c o, c ≠ z -> h₅.get? c = some o -> h₈.get? c = some o := fun c o c1 e => hs₈.extBut _ _ c1 (hs₇.extBut _ _ c1 (Heap.get?_push_of_some _ e))
 have hT₈ : IsPair h₈ h₅.objs.size x y := hs₈.extBut _ _ (Nat.ne_of_gt hzlt) (hs₇.extBut _ _ (Nat.ne_of_gt hzlt) (Heap.get?_push_size _ rfl))
 have hz8 : h₈.objs.size = h₅.objs.size + 1 := by rw [hs₈.1, hs₇.1, Heap.size_push]
 rw [hsz] at hz₈ hT₈ hz8
 refine wpAny_pure ⟨_, rfl, ?_⟩
 show Q (.ref h₅.objs.size) _
 rw [hsz]
 exact hQ h₈ _ x hP hz₈ (up _ _ D.TOz hTO₅) (D1.frame _ h₅ h₈ h1₅ fun b hb o e => up b o (fun x => D.zf (x ▸ hb)) e) (h2₅.at fun o e => up _ o D.i2z e) hT₈ hz8 fun c o c1 c2 c3 c4 e => up c o c1 (hk₅ c o c1 c2 c3 c4 e)
theorem aNq (D1 : Draws prog w A i1 fp n P St) (hh : A.handled = none) (D : ZApart z TI TO i1 i2 l fp)
  (hz : IsZip s.heap z TI TO .none) (hTI : IsPair s.heap TI (.ref i1) (.ref i2)) (hTO : IsPair s.heap TO a b)
  (h1 : St k1 s.heap) (h2 : s.heap.IsListIter i2 l k2) (hl : s.heap.IsList l ys)
  (hend : (∀ (s : Shared) (Q : Value -> Shared -> Prop) (E : Value -> Shared -> Prop), St k1 s.heap -> (∀ h' e, Heap.ExtBut i1 s.heap h' -> (∃ o, h'.get? e = some o /\ o.cls = .type "StopIteration") -> E (.ref e) { s with heap := h' }) -> wpAny (model prog w) A (Builtin.SmallTypes.nextOf (.ref i1)) Q E s) \/ (k1 < n /\ ys[k2]? = none)) {Q : Fin -> Shared -> Prop}
  (hE : ∀ h' e tk, (∀ c o, c ≠ z -> c ≠ TO -> c ≠ i1 -> c ≠ i2 -> s.heap.get? c = some o -> h'.get? c = some o) -> (∃ o, h'.get? e = some o /\ o.cls = .type "StopIteration") -> E (.ref e) { s with heap := h', toks := tk }) :
  wpAny (model prog w) A (Builtin.«zip.__next__» ⟨[.ref z], []⟩) Q E s := by
 show wpAny _ _ (field (.ref z) 2 >>= _) _ _ _
 refine wpAny_bind (wpAny_field hz rfl (x := .bool false) rfl ?_)
 show wpAny _ _ (field (.ref z) 3 >>= _) _ _ _
 refine wpAny_bind (wpAny_field hz rfl (x := .ref TI) rfl ?_)
 refine wpAny_bind (wpAny_seqItems hTI rfl ?_)
 show wpAny _ _ (Builtin.SmallTypes.ownedTupleIsFree (.ref z) >>= _) _ _ _
 refine wpAny_bind ?_
 unfold Builtin.SmallTypes.ownedTupleIsFree
 refine wpAny_bind (wpAny_field hz rfl (x := .none) rfl (wpAny_pure ?_))
 simp only [if_true]
 refine wpAny_bind (wpAny_rule ?_)
 refine wpAny_bind (wpAny_field hz rfl (x := .ref TO) rfl ?_)
 refine wpAny_bind (wpAny_setField_rec hz (by simp) fun h₁ hz₁ hs₁ => ?_)
 replace hz₁ : IsZip h₁ z TI TO .ellipsis := hz₁
 refine wpAny_bind ?_
 simp only [List.zipIdx_cons, List.zipIdx_nil, List.forIn_cons, List.forIn_nil]
 refine wpAny_bind (wpAny_bind (wpAny_onRaise ?_))
 show wpAny _ _ (Builtin.SmallTypes.nextOf (.ref i1) >>= _) _ _ _
 have fr1 : St k1 h₁ := D1.frame k1 s.heap h₁ h1 fun b hb o e => hs₁.extBut _ _ (fun x => D.zf (x ▸ hb)) e
 rcases hend with hend | ⟨hkn, hy⟩
 ·refine wpAny_bind (hend { s with heap := h₁ } _ _ fr1 fun h₂ e hs₂ he => ?_)
  have hs₂ : Heap.ExtBut i1 h₁ h₂ := hs₂
  obtain ⟨oe, hoe, hce⟩ := he
  have hz₂ : IsZip h₂ z TI TO .ellipsis := hs₂ _ _ D.i1z.symm hz₁
  have hez : e ≠ z := fun x => by subst x; rw [hz₂] at hoe; cases hoe; simp at hce
  refine wpAny_setField_rec hz₂ (by simp) fun h₃ _ hs₃ => hE h₃ e _ (fun c o c1 _ c3 _ x => hs₃.extBut _ _ c1 (hs₂ _ _ c3 (hs₁.extBut _ _ c1 x))) ⟨oe, hs₃.extBut _ _ hez hoe, hce⟩
 ·refine wpAny_bind (D1.item k1 { s with heap := h₁ } _ _ hkn fr1 fun x h₂ tk hP h1₂ hs₂ => wpAny_pure ?_)
  have hs₂ : Heap.SameBut i1 h₁ h₂ := hs₂
  have hTO₂ : IsPair h₂ TO a b := hs₂.extBut _ _ D.TOi1 (hs₁.extBut _ _ D.TOz hTO)
  refine wpAny_bind (wpAny_seqItems hTO₂ rfl ?_)
  refine wpAny_bind (wpAny_updateSeq_pair hTO₂ fun h₃ hTO₃ hs₃ => ?_)
  have hs₃' : Heap.SameBut TO h₂ h₃ := hs₃
  refine wpAny_bind (wpAny_letGo (wpAny_pure ?_))
  refine wpAny_bind (wpAny_bind (wpAny_onRaise ?_))
  show wpAny _ _ (Builtin.SmallTypes.nextOf (.ref i2) >>= _) _ _ _
  refine wpAny_bind (wpAny_nextOf_list_end hh (((h2.extBut hs₁.extBut D.i2z).extBut hs₂.extBut D.i12.symm).extBut hs₃'.extBut D.TOi2.symm)
   (((hl.extBut hs₁.extBut D.lz).extBut hs₂.extBut D.li1).extBut hs₃'.extBut D.lTO) hy fun h₄ e hs₄ he => ?_)
  have hs₄ : Heap.ExtBut i2 h₃ h₄ := hs₄
  obtain ⟨oe, hoe, hce⟩ := he
  have hz₄ : IsZip h₄ z TI TO .ellipsis := hs₄ _ _ D.i2z.symm (hs₃'.extBut _ _ D.TOz.symm (hs₂.extBut _ _ D.i1z.symm hz₁))
  have hez : e ≠ z := fun x => by subst x; rw [hz₄] at hoe; cases hoe; simp at hce
  refine wpAny_setField_rec hz₄ (by simp) fun h₅ _ hs₅ => hE h₅ e _ (fun c o c1 c2 c3 c4 x => hs₅.extBut _ _ c1 (hs₄ _ _ c4 (hs₃'.extBut _ _ c2 (hs₂.extBut _ _ c3 (hs₁.extBut _ _ c1 x))))) ⟨oe, hs₅.extBut _ _ hez hoe, hce⟩
end
section
variable {prog : Program} {w : World} {A : Around} {E : Value -> Shared -> Prop} {s : Shared}
abbrev zH1 (h : Heap) (x : Str) (t : Tok) : Heap := h.push { cls := .type (strIterType x), data := .fields #[.str x t, .int 0 0] }
abbrev zH2 (h : Heap) (x : Str) (t : Tok) (l : Addr) : Heap := (zH1 h x t).push { cls := .type "list_iterator", data := .fields #[.ref l, .int 0 0] }
abbrev zH3 (h : Heap) (x : Str) (t : Tok) (l : Addr) : Heap := (zH2 h x t l).push { cls := .type "tuple", data := .seq #[.ref h.objs.size, .ref (zH1 h x t).objs.size] }
abbrev zH4 (h : Heap) (x : Str) (t : Tok) (l : Addr) : Heap := (zH3 h x t l).push { cls := .type "tuple", data := .seq #[.none, .none] }
abbrev zH5 (h : Heap) (x : Str) (t : Tok) (l : Addr) : Heap := (zH4 h x t l).push { cls := .type "zip", data := .fields #[.none, .bool false, .bool false, .ref (zH2 h x t l).objs.size, .ref (zH3 h x t l).objs.size] }
theorem aF8 (x : Str) (t : Tok) (l : Addr) (ys : Array Value) :
  Meets (Builtin.«zip.__new__» ⟨[.type "zip", .str x t, .ref l], []⟩) (fun _ R s => s.heap.IsList l ys /\
   R (.ok (.ret (.ref (zH4 s.heap x t l).objs.size))) { s with heap := zH5 s.heap x t l }) :=
 .of_wp fun prog w A R s h => by
  obtain ⟨hp, g, d, tk, os⟩ := s; obtain ⟨hl, h⟩ := h
  have hsub := sub_zip
  have hL : Heap.IsList (Shared.heap ⟨hp.push { cls := .type (strIterType x), data := .fields #[.str x t, .int 0 0] }, g, d, tk, os⟩) l ys := Heap.IsList.push hl _
  wp_walk using wpAny_pyIter_strU, wpAny_pyIter_list hL
  exact ⟨_, rfl, h⟩
theorem aIb {x : Str} {t : Tok} {l : Addr} {ys : Array Value} {Q : Value -> Shared -> Prop} (hl : s.heap.IsList l ys)
  (h : ∀ h', IsZip h' (s.heap.objs.size + 4) (s.heap.objs.size + 2) (s.heap.objs.size + 3) .none -> IsPair h' (s.heap.objs.size + 2) (.ref s.heap.objs.size) (.ref (s.heap.objs.size + 1)) ->
   IsPair h' (s.heap.objs.size + 3) .none .none -> h'.IsStrIter s.heap.objs.size (strIterType x) x t 0 -> h'.IsListIter (s.heap.objs.size + 1) l 0 -> h'.objs.size = s.heap.objs.size + 5 ->
   (∀ c o, s.heap.get? c = some o -> h'.get? c = some o) -> Q (.ref (s.heap.objs.size + 4)) { s with heap := h' }) :
  wpAny (model prog w) A (call (.type "zip") [.str x t, .ref l]) Q E s := by
 refine callType_new PySem.F.called_zip (by decide) (PySem.F.typeCall_zip_2 _ _) (PySem.F.newCall_zip_2 _ _) (fun obj => PySem.F.args_object_init_3 obj _ _) PySem.F.entry_zip_new
  (aF8 x t l ys) ⟨hl, ?_⟩
 have z1 : (zH1 s.heap x t).objs.size = s.heap.objs.size + 1 := Heap.size_push ..
 have z2 : (zH2 s.heap x t l).objs.size = s.heap.objs.size + 2 := by rw [Heap.size_push, z1]
 have z3 : (zH3 s.heap x t l).objs.size = s.heap.objs.size + 3 := by rw [Heap.size_push, z2]
 have z4 : (zH4 s.heap x t l).objs.size = s.heap.objs.size + 4 := by rw [Heap.size_push, z3]
 have z5 : (zH5 s.heap x t l).objs.size = s.heap.objs.size + 5 := by rw [Heap.size_push, z4]
 have g5 : (zH5 s.heap x t l).get? (zH4 s.heap x t l).objs.size = some _ := Heap.get?_push_size _ rfl
 have g4 : (zH5 s.heap x t l).get? (zH3 s.heap x t l).objs.size = some _ := Heap.get?_push_of_some _ (Heap.get?_push_size _ rfl)
 have g3 : (zH5 s.heap x t l).get? (zH2 s.heap x t l).objs.size = some _ := Heap.get?_push_of_some _ (Heap.get?_push_of_some _ (Heap.get?_push_size _ rfl))
 have g2 : (zH5 s.heap x t l).get? (zH1 s.heap x t).objs.size = some _ := Heap.get?_push_of_some _ (Heap.get?_push_of_some _ (Heap.get?_push_of_some _ (Heap.get?_push_size _ rfl)))
 have g1 : (zH5 s.heap x t l).get? s.heap.objs.size = some _ := Heap.get?_push_of_some _ (Heap.get?_push_of_some _ (Heap.get?_push_of_some _ (Heap.get?_push_of_some _ (Heap.get?_push_size _ rfl))))
 show _ /\ _
 rw [z2, z3, z4] at g5
 rw [z1, z2] at g3
 rw [z3] at g4
 rw [z1] at g2
 rw [z4]
 exact ⟨⟨_, g5, rfl⟩, h _ g5 g3 g4 ⟨_, g1, rfl, rfl⟩ ⟨_, g2, rfl, rfl⟩ z5 fun c o x =>
  Heap.get?_push_of_some _ (Heap.get?_push_of_some _ (Heap.get?_push_of_some _ (Heap.get?_push_of_some _ (Heap.get?_push_of_some _ x))))⟩
theorem aAz (hh : A.handled = none) (it : Addr) (x : Str) (t : Tok) {n : String} (hn : n = "str_ascii_iterator" \/ n = "str_iterator") :
  Draws prog w A it [it] x.cps.size (fun i v => ∃ c u, x.cps[i]? = some c /\ v = .str ⟨#[c]⟩ u) (fun i h => h.IsStrIter it n x t i) := by
 rcases hn with rfl | rfl
 ·exact Draws.strAscii hh it x t
 ·exact Draws.strWide hh it x t
theorem aNr (hh : A.handled = none) {it : Addr} {x : Str} {t : Tok} {n : String} {i : Nat} (hn : n = "str_ascii_iterator" \/ n = "str_iterator") {Q : Value -> Shared -> Prop} (st : s.heap.IsStrIter it n x t i) (hx : x.cps[i]? = none)
  (hE : ∀ h' e, Heap.ExtBut it s.heap h' -> (∃ o, h'.get? e = some o /\ o.cls = .type "StopIteration") -> E (.ref e) { s with heap := h' }) : wpAny (model prog w) A (Builtin.SmallTypes.nextOf (.ref it)) Q E s := by
 rcases hn with rfl | rfl
 ·exact wpAny_nextOf_ascii_end hh st hx hE
 ·exact wpAny_nextOf_wide_end hh st hx hE
theorem zM (x : Str) : strIterType x = "str_ascii_iterator" \/ strIterType x = "str_iterator" := by
 unfold strIterType
 split <;> simp
end
def Itz (K : PySem.W.Frag) (z : List Nat) (a : Addr) : It :=
 ⟨fun i H => i < z.length /\ ∃ xs x, SqL K H a xs /\ xs[i]? = some x, fun i H x H' => ∃ T c v, x = V.ref T /\ H T = none /\ z[i]? = some c /\ H' = upd H T (.tup [.str ⟨#[c]⟩, v]) /\ ∀ xs, SqL K H a xs -> xs[i]? = some v, fun i H => ∃ xs, SqL K H a xs /\ (z.length <= i \/ xs.length <= i)⟩
theorem aLc {P : Program} {w : World} {K : PySem.W.Frag} {elts : List Expr} {x1} {tp : Pos} {zs : List Nat} {t : Tok} {n : String} (hn : n = "str_ascii_iterator" \/ n = "str_iterator") (a z TI TO i1 i2 : Addr) (D : ∀ l, l = a -> ZApart z TI TO i1 i2 l [i1]) :
  Turn P w K (.Tuple elts x1 tp) (Itz K zs a) [z, TI, TO, i1, i2] z (fun i h => IsZip h z TI TO .none /\ IsPair h TI (.ref i1) (.ref i2) /\ (∃ u v, IsPair h TO u v) /\ h.IsStrIter i1 n ⟨zs.toArray⟩ t i /\ h.IsListIter i2 a i) where
 mem := by simp
 obj := fun i h st b hb => by
  obtain ⟨hz, hTI, ⟨u, v, hTO⟩, ⟨o1, q1, c1, d1⟩, ⟨o2, q2, c2, d2⟩⟩ := st
  simp only [List.mem_cons, List.not_mem_nil, or_false] at hb
  rcases hb with rfl | rfl | rfl | rfl | rfl
  ·exact ⟨_, hz, fun v z => by cases z⟩
  ·exact ⟨_, hTI, fun v z => by cases z⟩
  ·exact ⟨_, hTO, fun v z => by cases z⟩
  ·exact ⟨o1, q1, fun v z => by rw [d1] at z; cases z⟩
  ·exact ⟨o2, q2, fun v z => by rw [d2] at z; cases z⟩
 keep := fun i h h' st k => by
  obtain ⟨hz, hTI, ⟨u, v, hTO⟩, ⟨o1, q1, r1⟩, h2⟩ := st
  exact ⟨k z (by simp) _ hz, k TI (by simp) _ hTI, ⟨u, v, k TO (by simp) _ hTO⟩, ⟨o1, k i1 (by simp) _ q1, r1⟩, h2.at fun o x => k i2 (by simp) o x⟩
 item := by
  intro X hP hw hK hc i pins s σ H E I hf st hg
  subst hP hw hK
  obtain ⟨hz, hTI, ⟨u0, v0, hTO⟩, h1, h2⟩ := st
  obtain ⟨hi, xs, x, hq, hx⟩ := hg
  obtain ⟨its, rv, p, _⟩ := I.list hq
  obtain ⟨u, hu, ru⟩ := rv.get hx
  have D := D a rfl
  have fo : ∀ b ∈ [z, TI, TO, i1, i2], H b = none := fun b hb => (hf b hb).1
  have hT : H s.heap.objs.size = none := I.hok.fresh (Nat.le_refl _)
  have hzt : s.TypeIs (.ref z) "zip" := ⟨_, hz, rfl⟩
  have hh := I.ok.hd hc
  unfold pyNext
  refine wpAny_bind (wpAny_attempt (wpAny_callSpecial?_slot (name := Str.ofString "__next__") hzt PySem.F.slot_zip_next
   (wpAny_call_entry PySem.F.slot_zip_next hzt PySem.F.entry_zip_next
    (aLb (aAz (A := X.A.in1) hh i1 ⟨zs.toArray⟩ t hn) D hz hTI hTO h1 (by simpa using hi) h2 p.isList (y := u) (by simpa using hu) fun h' tk v hP a1 a2 a3 a4 a5 a6 hk => wpAny_pure ?_) (PySem.F.args_zip_next_1 _))))
  obtain ⟨c, uu, hcc, rfl⟩ := hP
  refine ⟨_, rfl, wpAny_letOwnedTupleGo_zip (s := { s with heap := h', toks := tk }) a1 fun h9 hz9 sb => ?_⟩
  have hkeep : ∀ b o, b ≠ z -> b ≠ TO -> b ≠ i1 -> b ≠ i2 -> s.heap.get? b = some o -> h9.get? b = some o := fun b o e1 e2 e3 e4 q => (sb.2 b e1).trans (hk b o e1 e2 e3 e4 q)
  have zlt : z ≠ s.heap.objs.size := Nat.ne_of_lt (Heap.lt_size hz)
  have htup : h9.get? s.heap.objs.size = some { cls := .type "tuple", data := .seq #[.str ⟨#[c]⟩ uu, u] } := (sb.2 _ zlt.symm).trans a5
  have nT : ∀ b u', H b = some u' -> b ≠ s.heap.objs.size := fun b u' q => aU q hT
  have nx : ∀ b u', H b = some u' -> b ≠ z /\ b ≠ TO /\ b ≠ i1 /\ b ≠ i2 := fun b u' q => ⟨aU q (fo z (by simp)), aU q (fo TO (by simp)), aU q (fo i1 (by simp)), aU q (fo i2 (by simp))⟩
  have mx : ∀ b : Addr, b ∉ [z, TI, TO, i1, i2] -> b ≠ z /\ b ≠ TO /\ b ≠ i1 /\ b ≠ i2 := fun b hb => ⟨fun q => hb (by simp [q]), fun q => hb (by simp [q]), fun q => hb (by simp [q]), fun q => hb (by simp [q])⟩
  have inL : ∀ b o, s.heap.get? b = some o -> b ≠ s.heap.objs.size := fun b o q => Nat.ne_of_lt (Heap.lt_size q)
  have kp : ∀ b o, b ∉ [z, TI, TO, i1, i2] -> s.heap.get? b = some o -> h9.get? b = some o := fun b o hb q => hkeep b o (mx b hb).1 (mx b hb).2.1 (mx b hb).2.2.1 (mx b hb).2.2.2 q
  have un : Un (frs X.stack) [z, TI, TO, i1, i2] H (upd H s.heap.objs.size (.tup [.str ⟨#[c]⟩, x])) s.heap h9 := by
   refine ⟨fun b o q n hb hx => kp b o hx q, fun b o q n hb hx => ⟨o.slots, kp b o hx q⟩, fun b o q n hx => by rw [bG (inL b o q)]; exact n, fun b o q hx => ⟨o, kp b o hx q⟩, fun b ys q => by rw [bG (nT b _ q)]; exact q, fun b o u' q => by rw [bG (nT b _ q)]; exact q, fun b ps q => ⟨#[], by rw [bG (nT b _ q), Array.append_empty]; exact q⟩⟩
  have hok : HOk X.prog X.w (upd H s.heap.objs.size (.tup [.str ⟨#[c]⟩, x])) h9 := fun b u' q => by
   by_cases hb : b = s.heap.objs.size
   ·subst hb
    rw [bV] at q
    cases q
    exact ⟨show 2 <= sizeLine by decide, [.str ⟨#[c]⟩ uu, u], .cons ⟨_, rfl⟩ (.cons ru .nil), _, htup, rfl, _, rfl⟩
   ·rw [bG hb] at q
    refine (I.hok b u' q).stay (fun c v hc' q' => ?_) (fun c q' => by rw [bG (nT c _ q')]; exact q') fun c ys q' => by rw [bG (nT c _ q')]; exact q'
    have : ∃ u'', H c = some u'' := by
     rcases hc' with z | z
     ·exact ⟨u', by rw [z]; exact q⟩
     ·exact ⟨_, z⟩
    obtain ⟨u'', hu''⟩ := this
    obtain ⟨e1, e2, e3, e4⟩ := nx c _ hu''
    exact hkeep c v e1 e2 e3 e4 q'
  have I2 : Inv X pins σ (upd H s.heap.objs.size (.tup [.str ⟨#[c]⟩, x])) { s with heap := h9, toks := tk } := I.call (g' := s.gens) (t' := tk) (d' := s.drawn) (ch := [z, TI, TO, i1, i2]) un hok I.bare fun b hb => by
   have fb := hf b hb
   exact ⟨fb.2.2.2.1, fb.2.1, fb.2.2.2.2.1, fb.2.2.2.2.2⟩
  have up : ∀ b o, b ≠ z -> h'.get? b = some o -> h9.get? b = some o := fun b o e q => (sb.2 b e).trans q
  refine ⟨.ref s.heap.objs.size, _, I2, rfl, ⟨_, c, x, rfl, hT, by simpa using hcc, rfl, fun ys hy => by rw [I.list_inj hy hq]; exact hx⟩, ⟨hz9, up _ _ D.TIz (hk _ _ D.TIz D.TITO D.TIi1 D.TIi2 hTI), ⟨_, _, up _ _ D.TOz a2⟩, ?_, a4.at fun o y => up _ o D.i2z y⟩, fun b hb => ?_⟩
  ·obtain ⟨o1, q1, r1⟩ := a3
   exact ⟨o1, up _ _ D.i1z q1, r1⟩
  ·have hbs : ∃ o, s.heap.get? b = some o := by
    simp only [List.mem_cons, List.not_mem_nil, or_false] at hb
    obtain ⟨o1, q1, _⟩ := h1
    obtain ⟨o2, q2, _⟩ := h2
    rcases hb with rfl | rfl | rfl | rfl | rfl
    ·exact ⟨_, hz⟩
    ·exact ⟨_, hTI⟩
    ·exact ⟨_, hTO⟩
    ·exact ⟨_, q1⟩
    ·exact ⟨_, q2⟩
   obtain ⟨o, q⟩ := hbs
   rw [bG (inL b o q)]
   exact fo b hb
 done := by
  intro X hP hw hK hc i pins s σ H E I hf st hg
  subst hP hw hK
  obtain ⟨hz, hTI, ⟨u0, v0, hTO⟩, h1, h2⟩ := st
  obtain ⟨xs, hq, hx⟩ := hg
  obtain ⟨its, rv, p, _⟩ := I.list hq
  have D := D a rfl
  have hzt : s.TypeIs (.ref z) "zip" := ⟨_, hz, rfl⟩
  have hh := I.ok.hd hc
  have hl := rv.length
  unfold pyNext
  refine wpAny_bind (wpAny_attempt (wpAny_callSpecial?_slot (name := Str.ofString "__next__") hzt PySem.F.slot_zip_next
   (wpAny_call_entry PySem.F.slot_zip_next hzt PySem.F.entry_zip_next
    (aNq (aAz (A := X.A.in1) hh i1 ⟨zs.toArray⟩ t hn) hh D hz hTI hTO h1 h2 p.isList (by
     by_cases hi : zs.length <= i
     ·refine .inl fun s' Q E st hE => aNr (A := X.A.in1) hh hn st (by simpa using hi) hE
     ·exact .inr ⟨by simpa using hi, by simp; omega⟩) fun h' e tk hk he => ?_) (PySem.F.args_zip_next_1 _))))
  obtain ⟨o, ho, hce⟩ := he
  refine wpAny_bind (wpAny_isInstance (T := "StopIteration") (b := true) ⟨o, ho, hce⟩ isSubtype_stop ?_)
  refine wpAny_pure ⟨rfl, ?_⟩
  have fo : ∀ b ∈ [z, TI, TO, i1, i2], H b = none := fun b hb => (hf b hb).1
  have mx : ∀ b : Addr, b ∉ [z, TI, TO, i1, i2] -> b ≠ z /\ b ≠ TO /\ b ≠ i1 /\ b ≠ i2 := fun b hb => ⟨fun q => hb (by simp [q]), fun q => hb (by simp [q]), fun q => hb (by simp [q]), fun q => hb (by simp [q])⟩
  have kp : ∀ b o, b ∉ [z, TI, TO, i1, i2] -> s.heap.get? b = some o -> h'.get? b = some o := fun b o hb q => hk b o (mx b hb).1 (mx b hb).2.1 (mx b hb).2.2.1 (mx b hb).2.2.2 q
  have un : Un (frs X.stack) [z, TI, TO, i1, i2] H H s.heap h' :=
   ⟨fun b o q n hb hx => kp b o hx q, fun b o q n hb hx => ⟨o.slots, kp b o hx q⟩, fun b o q n hx => n, fun b o q hx => ⟨o, kp b o hx q⟩, fun b ys q => q, fun b o u' q => q, fun b ps q => ⟨#[], by rw [Array.append_empty]; exact q⟩⟩
  have hok : HOk X.prog X.w H h' := fun b u' q => by
   refine (I.hok b u' q).stay (fun c v hc' q' => ?_) (fun c q' => q') fun c ys q' => q'
   have : ∃ u'', H c = some u'' := by
    rcases hc' with z | z
    ·exact ⟨u', by rw [z]; exact q⟩
    ·exact ⟨_, z⟩
   obtain ⟨u'', hu''⟩ := this
   exact hk c v (aU hu'' (fo z (by simp))) (aU hu'' (fo TO (by simp))) (aU hu'' (fo i1 (by simp))) (aU hu'' (fo i2 (by simp))) q'
  exact I.call (g' := s.gens) (t' := tk) (d' := s.drawn) (ch := [z, TI, TO, i1, i2]) un hok I.bare fun b hb => by
   have fb := hf b hb
   exact ⟨fb.2.2.2.1, fb.2.1, fb.2.2.2.2.1, fb.2.2.2.2.2⟩
 self := fun _ _ _ _ _ st h => wpAny_pyIter_zip st.1 h
theorem aDv : ∀ (z : List Nat) (ds : List D), (sU z ds).length = min z.length ds.length
 | [], ds => by simp [sU]
 | c :: z, [] => by simp [sU]
 | c :: z, d :: ds => by rw [sU, List.length_cons, List.length_cons, List.length_cons, aDv]; omega
theorem aDw : ∀ (z : List Nat) (ds : List D) (i : Nat) (d : D), (sU z ds)[i]? = some d -> ∃ c e, z[i]? = some c /\ ds[i]? = some e /\ d = .tup [.str [c], e]
 | [], ds, i, d, h => by simp [sU] at h
 | c :: z, [], i, d, h => by simp [sU] at h
 | c :: z, e :: ds, 0, d, h => by
  rw [sU] at h
  simp at h
  exact ⟨c, e, rfl, rfl, h.symm⟩
 | c :: z, e :: ds, i + 1, d, h => by
  rw [sU, List.getElem?_cons_succ] at h
  obtain ⟨c', e', h1, h2, h3⟩ := aDw z ds i d h
  exact ⟨c', e', by simpa using h1, by simpa using h2, h3⟩
section
variable {X : Cx} {B : List Addr} {a b : Expr} {f g : Ex} {pos : Pos}
theorem aRp {K : PySem.W.Frag} {A : List Addr} {H : Hp} {z : List Nat} {ds : List D} {vs : List V} {l : Addr} (hq : SqL K (hide (A ++ B) H) l vs) (r : aW K (hide (A ++ B) H) ds vs) : aHw K B A H (Itz K z l) (sU z ds) := by
 intro A' H' le own i
 have hq' : SqL K H' l vs := (aX _ _).seq ((Le.app le).seq hq)
 refine ⟨fun d hd => ?_, fun hl => ⟨vs, hq', ?_⟩⟩
 ·obtain ⟨c, e, h1, h2, rfl⟩ := aDw z ds i d hd
  obtain ⟨v, hv, rv⟩ := r.get h2
  refine ⟨⟨(List.getElem?_eq_some_iff.mp h1).1, vs, v, hq', hv⟩, fun x H3 y => ?_⟩
  obtain ⟨T, c', v', rfl, hT, hc', rfl, h5⟩ := y
  have hx := h5 vs hq'
  rw [hv] at hx
  cases hx
  rw [h1] at hc'
  cases hc'
  exact ⟨cI hT, vV own hT (.cons (aR.mpr rfl) (.cons (rv.mono (Le.app le)) .nil))⟩
 ·rw [aDv] at hl
  rw [r.length]
  omega
theorem aRq {elts : List Expr} {x1} {tp p : Pos} (hm : X.mg "zip" = none) (ha : PE X a (tI X.K B f)) (hb : PE X b (tI X.K B g)) (hg : Gl X "zip" := by rfl) (hs : starEach [a, b] X.env = (false, eval a X.env) :: starEach [b] X.env := by rfl) (hs2 : starEach [b] X.env = [(false, eval b X.env)] := by rfl) : L2.PI X (.Tuple elts x1 tp) (.Call (.Name "zip" p) [a, b] [] pos) (tIt X.K B (aOu f g)) := by
 intro pins s σ H Rq I ⟨A, st, ds, rs, hd, q⟩
 obtain ⟨x, hx, h2⟩ := R.ok_of hd
 obtain ⟨y, hy, h3⟩ := R.ok_of h2
 split at h3
 rotate_left
 ·cases h3
 rename_i zs ws
 cases h3
 refine Call_ (rB I hg hm boot_zip (PyProof.Rows.callWith_type1 (thn ((cW ha (cW hb fK hs2) hs) pos pins s σ H (fun vs H1 => ∃ v w, vs = [v, w] /\ aP H H1 /\ Rep X.K (hide (A ++ B) H1) (.str zs) v /\ Rep X.K (hide (A ++ B) H1) (.lst ws) w) I ⟨A, st, _, rs, hx, fun v H1 s1 r1 => ⟨A, st, _, rs.mono s1, hy, fun w H2 s2 r2 => ⟨v, w, rfl, s1.trans s2, r1.mono (aP.hide s2), r2⟩⟩⟩) fun us s1 ⟨vs, H1, I1, r1, v, w, hv, sm, rv, rw'⟩ => ?_) hs (by rw [hs2]; rfl)))
 subst hv
 obtain ⟨u1, u2, rfl, ra, rb⟩ : ∃ u1 u2, us = [u1, u2] /\ L2.RelV v u1 /\ L2.RelV w u2 := by
  cases r1 with
  | cons ra rb =>
   cases rb with
   | cons rb rc =>
    cases rc
    exact ⟨_, _, rfl, ra, rb⟩
 obtain ⟨l, ts, rfl, hq, rr⟩ := bL.mp rw'
 have ev := aR.mp rv
 subst ev
 obtain ⟨t, rfl⟩ := (show ∃ t, u1 = Value.str ⟨zs.toArray⟩ t from ra)
 have eu : u2 = Value.ref l := rb
 subst eu
 obtain ⟨its, rvv, pl, hz⟩ := I1.list ((aX _ _).seq hq)
 have hlt : l < s1.heap.objs.size := by
  obtain ⟨o, e, _⟩ := pl.isList
  exact Heap.lt_size e
 refine aIb pl.isList fun h' hz' hTI hTO hit1 hit2 hsz hk => ?_
 refine wpAny_pyIter_zip hz' ⟨s1.heap.objs.size + 4, [s1.heap.objs.size + 4, s1.heap.objs.size + 2, s1.heap.objs.size + 3, s1.heap.objs.size, s1.heap.objs.size + 1], _, Itz X.K zs l, H1, rfl, I1.kept (t' := s1.toks) hk, aLc (t := t) (zM ⟨zs.toArray⟩) l (s1.heap.objs.size + 4) (s1.heap.objs.size + 2) (s1.heap.objs.size + 3) s1.heap.objs.size (s1.heap.objs.size + 1) (fun l' e => ?_), ⟨hz', hTI, ⟨_, _, hTO⟩, hit1, hit2⟩, fun b hb => ?_, q _ H1 sm (aRp hq rr)⟩
 ·subst e
  exact aF7 hlt
 ·simp only [List.mem_cons, List.not_mem_nil, or_false] at hb
  rcases hb with rfl | rfl | rfl | rfl | rfl <;> exact I1.fpOk (by simp) (I1.hok.fresh (by simp))
end
end Pu
namespace Pu
open PySem PySem.Spec PyProof.Rows L2
section
variable {X : Cx} {B : List Addr} {a b e : Expr} {f g : Ex} {pos p0 p1 q : Pos}
theorem aRr {ta : TA} (hm : X.mg "range" = none) (ha : PA X [a] ta) (hg : Gl X "range" := by rfl) (hs : starEach [a] X.env = [(false, eval a X.env)] := by rfl) :
  PE X (.Call (.Name "range" p1) [a] [] q) (fun σ H Q => ta σ H fun vs H1 => ∃ j : Int, vs = [.int j] /\ ∀ r, H1 r = none -> Q (.ref r) (upd H1 r (.rng 0 j))) := by
 intro pins s σ H Q I h
 refine Call_ (rB I hg hm boot_range (PyProof.Rows.callWith_type1 (thn (ha q pins s σ H _ I h) fun us s1 ⟨vs, H1, I1, r1, j, e, qq⟩ => ?_) hs rfl))
 subst e
 cases r1 with
 | cons r rr =>
  cases rr
  obtain ⟨t, rfl⟩ := r
  exact call_range_1 ⟨.ref s1.heap.objs.size, _, I1.laid (a := s1.heap.objs.size) (o := .rng 0 j) (fun b o e => Heap.get?_push_of_some _ e) (Nat.le_refl _) ⟨_, _, _, Heap.get?_push_size _ rfl⟩, rfl, qq _ (I1.hok.fresh (Nat.le_refl _))⟩
theorem aCa (hc : X.calm = true) : jV X (.type "list") (fun vs H Q => ∃ r, ∃ j : Int, vs = [.ref r] /\ H r = some (.rng 0 j) /\ -10000000 <= j /\ j <= 10000000 /\ ∀ n, H n = none -> Q (.ref n) (upd H n (.lst ((List.range j.toNat).map fun (k : Nat) => V.int (k : Int))))) := by
 intro pins s σ H vs us Q I r h
 obtain ⟨l, j, rfl, hl, h1, h2, q⟩ := h
 obtain ⟨u, rfl, ru⟩ := r.one
 obtain rfl : u = Value.ref l := ru
 obtain ⟨t, u, v, ho⟩ := (show ∃ t u v, s.heap.get? l = some { cls := .type "range", data := .fields #[.int 0 t, .int j u, .int 1 v] } from I.hok l _ hl)
 have hn : Builtin.Range.rangeSize 0 j 1 = (j.toNat : Nat) := by rw [rangeSize_one]; split <;> omega
 refine call_list_range (I.ok.hd hc) ho (small_one (by omega) (by omega) (by omega) (by omega)) hn (by omega) fun h' tk acc c' hk hs hi => ?_
 refine ⟨.ref s.heap.objs.size, _, I.laid (o := .lst ((List.range j.toNat).map fun (k : Nat) => V.int (k : Int))) (t' := tk) hk (Nat.le_refl _) ⟨?_, acc.toList, c', ?_, by simpa using hs⟩, rfl, q _ (I.hok.fresh (Nat.le_refl _))⟩
 ·rw [List.length_map, List.length_range, sizeLine_eq]; omega
 ·obtain ⟨h3, h4⟩ := hi
  have key : ∀ (n : Nat) (xs : List Value), xs.length = n -> (∀ (k : Nat) w, xs[k]? = some w -> ∃ t, w = .int (0 + (k : Int) * 1) t) -> Vals ((List.range n).map fun (k : Nat) => V.int (k : Int)) xs := by
   intro n
   induction n with
   | zero => intro xs hx _; rw [List.length_eq_zero_iff.mp hx]; exact .nil
   | succ n ih =>
    intro xs hx hp
    obtain ⟨ys, y, rfl⟩ : ∃ ys y, xs = ys ++ [y] := by
     rcases List.eq_nil_or_concat xs with e | ⟨ys, y, e⟩
     ·rw [e] at hx; simp at hx
     ·exact ⟨ys, y, by rw [e, List.concat_eq_append]⟩
    have hy : ys.length = n := by simpa using hx
    rw [List.range_succ, List.map_append]
    refine (ih ys hy fun k w hk => ?_).append (.cons ?_ .nil)
    ·exact hp k w (by rw [List.getElem?_append_left (List.getElem?_eq_some_iff.mp hk).1]; exact hk)
    ·obtain ⟨t, e⟩ := hp n y (by rw [List.getElem?_append_right (by omega), hy]; simp)
     exact ⟨t, by rw [e]; simp⟩
  exact key _ _ (by simpa using h3) fun k w hk => by
   obtain ⟨t, e⟩ := h4 k w (by simpa using hk)
   exact ⟨t, e⟩
theorem aF9 {K : PySem.W.Frag} {H : Hp} (n : Nat) : aW K H (dR 0 n) ((List.range n).map fun (k : Nat) => V.int (k : Int)) := by
 unfold dR
 generalize List.range n = l
 induction l with
 | nil => exact .nil
 | cons x l ih => exact .cons (aN.mpr (by rw [Int.zero_add])) ih
theorem aLd (hm : X.mg "list" = none) (hr : X.mg "range" = none) (hc : X.calm = true) (ha : PE X a (tP X.K B f)) (hg : Gl X "list" := by rfl) (hg2 : Gl X "range" := by rfl) (hs : starEach [a] X.env = (false, eval a X.env) :: starEach [] X.env := by rfl) (hs2 : starEach [Expr.Call (.Name "range" p1) [a] [] q] X.env = (false, eval (.Call (.Name "range" p1) [a] [] q) X.env) :: starEach [] X.env := by rfl) :
  PE X (.Call (.Name "list" p0) [.Call (.Name "range" p1) [a] [] q] [] pos) (tI X.K B (e1 aBj f)) := by
 refine cH (uK (aCa hc) hg hm (by rfl) (cW (aRr hr (cW ha fK hs) hg2 hs) fK hs2) (he := hs2)) ?_
 rintro σ H Q ⟨A, st, d, rs, hd, qq⟩
 obtain ⟨x, hx, h2⟩ := R.ok_of hd
 refine ⟨A, st, x, rs, hx, fun v H1 s1 r1 => ?_⟩
 cases x <;> first | (cases h2; done) | skip
 rename_i j
 obtain ⟨c, h3⟩ := aJ h2
 cases h3
 rw [jZ] at c
 refine ⟨j, by rw [r1.int], fun r hr => ⟨r, j, rfl, bV, by omega, by omega, fun n hn => ?_⟩⟩
 have w1 := rs.own.mono (s1.trans (cI (o := .rng 0 j) hr))
 exact qq _ _ (s1.trans ((cI hr).trans (cI hn))) (gZ w1 hn (aF9 _))
theorem aNs (i : Nat) {x : Str} {pos' dp : Pos} (hk : PE X a (tI X.K B g)) (hv : PE X b (tI X.K B f)) (hN : X.N.Nodup) (hi : X.N[i]? = some x := by rfl) (hx : Loc X.env.scope x := by first | exact Or.inl rfl | exact Or.inr rfl) (hs : swapsWith (.Dict [some a] [b] dp) (some (.Name x pos')) pos.line X.env = pure false := by rfl)
  (hf : X.fn x = true \/ X.env.scope.names.lookup x = some .local := by first | exact .inl rfl | exact .inr rfl | assumption) : PS X (.Assign [.Name x pos'] (.Dict [some a] [b] dp) pos) (tS X.K B (aEj i g f)) := dU (uH hN hi hx (aM8 (aJ7 hk hv aM7) rfl rfl (by simp) (show 1 <= 15 by omega)) hs hf) (by
 rintro Dn σ H ⟨A, st, r, rs, hr, p⟩
 obtain ⟨k, hk, h2⟩ := R.ok_of hr
 obtain ⟨d, hd, h3⟩ := R.ok_of h2
 obtain ⟨⟨c1, c2⟩, h4⟩ := aJ h3
 cases h4
 intro a ha
 refine ⟨A, st, k, rs.mono (cI ha), hk, fun u H1 s1 r1 => ⟨A, st, d, (rs.mono (cI ha)).mono s1, hd, fun v H2 s2 r2 => ?_⟩⟩
 have e2 : H2 a = some (.dK []) := s2 _ _ (s1 _ _ bV)
 obtain ⟨kk, ek, ev⟩ : ∃ kk : Key, iQ kk = k /\ u = kV kk := by
  cases k <;> first | (cases c1; done) | skip
  ·exact ⟨.inl _, rfl, aN.mp r1⟩
  ·refine ⟨.inr ⟨_⟩, ?_, aR.mp r1⟩
   simp [iQ]
 refine ⟨e2, [(kk, v)], by rw [ev]; rfl, (show 1 <= 15 by omega), ?_⟩
 let G : Hp := fun b => if b = a then none else H2 b
 have sG : aP H G := fun b o z => by
  have hb : b ≠ a := aU z ha
  show (if b = a then none else H2 b) = _
  rw [if_neg hb]
  exact s2 _ _ (s1 _ _ (by rw [bG hb]; exact z))
 have gN : G a = none := if_pos rfl
 have eG : upd H2 a (.dK (uM [] [(kk, v)])) = upd G a (.dK [(kk, v)]) := by
  funext b
  by_cases hb : b = a
  ·subst hb; rw [bV, bV]; rfl
  ·rw [bG hb, bG hb]
   exact (if_neg hb).symm
 rw [eG]
 exact p (a :: A) _ _ ((Le.of sG).trans (aC3 gN)) ((rs.mono sG).setO (kk := .d false [k]) i gN (.inl ⟨rfl, [(kk, v)], rfl, by rw [<- ek]; rfl, rfl⟩) (.cons ((aLa c2 r2).mono aNp) .nil)))
end
end Pu
namespace Pu
open PySem PySem.Spec PyProof.Rows L2
section
variable {X : Cx} {B : List Addr} {a b e o : Expr} {f g : Ex} {pos apos cpos : Pos}
theorem yZ {K : PySem.W.Frag} {H : Hp} : ∀ {l : List Int} {vs : List V}, aW K H (l.map D.int) vs -> vs = l.map V.int
 | [], vs, h => cC.mp h
 | i :: l, vs, h => by
  obtain ⟨v, r, rfl, h1, h2⟩ := bB.mp h
  rw [aN.mp h1, yZ h2]; rfl
theorem vals_ints : ∀ {l : List Int} {us : List Value}, Vals (l.map V.int) us -> ∀ (j : Nat) (h : j < us.length), ∃ i t, l[j]? = some i /\ us[j] = .int i t
 | [], us, r, j, h => by cases r; simp at h
 | i :: l, us, r, j, h => by
  cases r with
  | cons ra rb =>
   obtain ⟨t, rfl⟩ := ra
   cases j with
   | zero => exact ⟨i, t, rfl, rfl⟩
   | succ j =>
    obtain ⟨i', t', h1, h2⟩ := vals_ints rb j (by simpa using h)
    exact ⟨i', t', by simpa using h1, by simpa using h2⟩
theorem aIc : MtR X "list.index" (fun x vs H Q => ∃ (p : Addr) (l : List Int) (k : Int) (n : Nat), x = V.ref p /\ vs = [.int k] /\ SqL X.K H p (l.map V.int) /\ l.findIdx? (fun i => i == k) = some n /\ l.length <= 10000000 /\ Q (.int (n : Int)) H) := by
 intro pins s σ H x vs v us Q I rx rv h
 obtain ⟨p, l, k, n, rfl, rfl, hq, hn, hl, q⟩ := h
 obtain ⟨u, rfl, ru⟩ := rv.one
 obtain ⟨t, rfl⟩ := (show ∃ t, u = Value.int k t from ru)
 have ep : v = Value.ref p := rx
 subst ep
 obtain ⟨its, rr, ⟨⟨cls, dd, data, sl⟩, n0, ho, hc, _, hd⟩, hz⟩ := I.list hq
 have hlen := rr.length
 rw [List.length_map] at hlen
 obtain ⟨h1, h2, h3⟩ := List.findIdx?_eq_some_iff_getElem.mp hn
 dsimp only at hc hd
 subst hc hd
 have hnu : n < its.length := by omega
 refine call_meets PySem.F.slot_list_index ⟨_, ho, rfl⟩ PySem.F.entry_list_index (PySem.F.args_list_index_2 _ _) (PySem.SeqAt.list_indexAt p its.toArray n0 dd sl (.int k t) (fun y => match y with | .int i _ => i == k | _ => false) n (by simpa using hnu) (by omega) ?_ fun m hm hmn => ?_) ⟨ho, fun y hy => ?_, ?_⟩
 ·obtain ⟨i, t', e1, e2⟩ := vals_ints rr n hnu
  rw [List.getElem_toArray, e2]
  rw [List.getElem?_eq_getElem h1] at e1
  cases e1
  exact h2
 ·have hm' : m < its.length := by simpa using hm
  obtain ⟨i, t', e1, e2⟩ := vals_ints rr m hm'
  rw [List.getElem_toArray, e2]
  rw [List.getElem?_eq_getElem (by omega)] at e1
  cases e1
  have := h3 m hmn
  simpa using this
 ·obtain ⟨m, hm, rfl⟩ := List.mem_iff_getElem.mp (show y ∈ its by simpa using hy)
  obtain ⟨i, t', e1, e2⟩ := vals_ints rr m hm
  rw [e2]
  exact (PySem.MeetsSeq.EqGives.int i k t' t).at _ _
 ·exact ⟨.int (n : Int), H, I.tok _, ⟨_, rfl⟩, q⟩
theorem aDx {r : Exs} (ho : PE X o (tP X.K B f)) (ha : PA X [e] (tA X.K B r)) (hbase : attributeBase o "index" X.env (eval o X.env) = eval o X.env := by rfl)
  (hfew : ((backTo cpos (starEach [e] X.env)).all (fun x => !x.1) && (backToKw cpos (keywordEach [] X.env)).all (fun x => x.1.isSome)
   && decide (([e] : List Expr).length + ([] : List Keyword).length + (if ([] : List Keyword).isEmpty then 0 else 1) < 30)) = true := by rfl)
  (hline : (apos.endLine == cpos.line) = true := by rfl) (hs : starEach [e] X.env = (false, eval e X.env) :: starEach [] X.env := by rfl) :
  PE X (.Call (.Attribute o "index" apos) [e] [] cpos) (tI X.K B (eMt aCu f r)) := by
 refine cH (aFk PySem.F.plainAttrs_list PySem.F.slot_list_index PySem.F.type_list_index aIc ho ha hbase hfew hline hs rfl) ?_
 rintro σ H Q ⟨A, st, d, rs, hd, k⟩
 obtain ⟨x, hx, h2⟩ := R.ok_of hd
 obtain ⟨xs, hxs, h3⟩ := R.ok_of h2
 unfold aCu at h3
 split at h3
 ·rename_i ys j
  obtain ⟨l, hl, h4⟩ := R.ok_of h3
  obtain ⟨n, hn, h5⟩ := R.ok_of h4
  obtain ⟨c, h6⟩ := aJ h5
  cases h6
  have ey := xQ hl
  subst ey
  refine ⟨A, st, _, rs, hx, fun v H1 s1 r1 => ?_⟩
  obtain ⟨p, vs, e1, hq, rr⟩ := r1.lst
  have ev := yZ rr
  subst ev
  refine ⟨by rw [e1]; exact .inl ⟨rfl, _, hq⟩, A, st, _, rs.mono s1, hxs, fun ws H2 s2 r2 => ?_⟩
  obtain ⟨w, rfl, rw'⟩ := aAv r2
  rw [jZ, List.length_map] at c
  exact ⟨p, l, j, n, e1, by rw [aN.mp rw'], s2.seq hq, rM hn, c, k _ H2 (s1.trans s2) (aN.mpr rfl)⟩
 ·cases h3
end
end Pu
namespace Pu
open PySem PySem.Spec PyProof.Rows L2
section
open PySem.SeqAt
open PySem.AutoSeq1 (wpAny_loadPart')
open PySem.MeetsSeq PySem.MeetsSeq2 PySem.MeetsSeq3
inductive LexW (A : Around) (s : Shared) : List Value -> List Value -> Bool -> Prop where
 | nn : LexW A s [] [] true
 | nc {w : Value} {ws : List Value} : LexW A s [] (w :: ws) true
 | cn {v : Value} {vs : List Value} : LexW A s (v :: vs) [] false
 | eq {v w : Value} {vs ws : List Value} {b : Bool} : EqAt A s v w true -> LexW A s vs ws b -> LexW A s (v :: vs) (w :: ws) b
 | lt {v w : Value} {vs ws : List Value} {b : Bool} : EqAt A s v w false -> (∀ (prog : Program) (wd : World) (E Q : Value -> Shared -> Prop), Q (.bool b) s -> wpAny (model prog wd) A (richCompare .LtE v w) Q E s) -> LexW A s (v :: vs) (w :: ws) b
theorem aIe (l b : Addr) (items items2 : Array Value) (n n2 : Nat) (dd dd2 : Option Addr) (sl sl2 : Array (Option Value)) (t : Bool) :
  Meets (Builtin.«tuple.__le__» ⟨[.ref l, .ref b], []⟩)
   (fun A R s => s.heap.get? l = some { cls := .type "tuple", dict := dd, data := .seq items n, slots := sl } /\ s.heap.get? b = some { cls := .type "tuple", dict := dd2, data := .seq items2 n2, slots := sl2 } /\
    LexW A.in1 s items.toList items2.toList t /\ R (.ok (.ret (.bool t))) s) :=
 .of_wp fun prog w A R s h => by
  obtain ⟨hp, g, d, tk, os⟩ := s; obtain ⟨hl, hb, hx, h⟩ := h
  have f2 := AutoSeq1.sub_tuple_tuple
  wp_walk using wpAny_loadPart' hl, wpAny_loadPart' hb, wpAny_forIn_list _ (fun rest b s' => b.1 = none /\ s' = ⟨hp, g, d, tk, os⟩ /\ ∃ (vs ws : List Value), rest = vs.zip ws /\
   LexW A.in1 ⟨hp, g, d, tk, os⟩ vs ws t /\ vs.length + items2.size = ws.length + items.size) _
  case turn =>
   rintro ⟨y, x⟩ rest b s' ⟨hb', rfl, vs, ws, hz, hv, hlen⟩
   cases hv with
   | nn => cases hz
   | nc => rw [List.zip_nil_left] at hz; cases hz
   | cn => rw [List.zip_nil_right] at hz; cases hz
   | eq he hr =>
    rw [List.zip_cons_cons] at hz
    injection hz with hyx hrest
    injection hyx with hy hx
    subst hy hx
    simp only [List.length_cons] at hlen
    refine wpAny_bind (he prog w _ _ ?_)
    wp_walk
    exact ⟨rfl, rfl, _, _, hrest, hr, by omega⟩
   | lt he hri =>
    rw [List.zip_cons_cons] at hz
    injection hz with hyx hrest
    injection hyx with hy hx
    subst hy hx
    refine wpAny_bind (he prog w _ _ ?_)
    have hri' := hri prog w
    wp_walk using hri'
    exact ⟨_, rfl, by simpa using h⟩
  case fin =>
   rintro ⟨b1, b2⟩ s' ⟨hb', rfl, vs, ws, hz, hv, hlen⟩
   simp only at hb'
   subst hb'
   have ht : t = decide (items.size <= items2.size) := by
    cases hv with
    | nn =>
     simp only [List.length_nil] at hlen
     exact (decide_eq_true (by omega)).symm
    | nc =>
     simp only [List.length_nil, List.length_cons] at hlen
     exact (decide_eq_true (by omega)).symm
    | cn =>
     simp only [List.length_nil, List.length_cons] at hlen
     exact (decide_eq_false (by omega)).symm
    | eq _ _ => rw [List.zip_cons_cons] at hz; cases hz
    | lt _ _ => rw [List.zip_cons_cons] at hz; cases hz
   rw [ht] at h
   wp_walk
   exact ⟨_, rfl, by simpa [Builtin.Tuple.tupleCompareSizes] using h⟩
  case h =>
   exact ⟨rfl, rfl, items.toList, items2.toList, rfl, hx, by simp; omega⟩
end
theorem aNt {prog : Program} {w : World} {A : Around} {E : Value -> Shared -> Prop} {s : Shared} {x y : Str} {t u : Tok} {Q : Value -> Shared -> Prop} (h : Q (.bool (!(y.cps.toList < x.cps.toList))) s) : wpAny (model prog w) A (compareOp .LtE (.str x t) (.str y u)) Q E s := by
 show wpAny _ _ (richCompare .LtE (.str x t) (.str y u)) Q E s
 exact wpAny_richCompare_same (op := .LtE) (T := "str") (typeIs_str s x t) (typeIs_str s y u) PyProof.Rows.slot_str_le
  (wpAny_call_entry PyProof.Rows.slot_str_le (typeIs_str s x t) PyProof.Rows.entry_str_le (show wpAny _ _ (ret (.bool (!(y.cps.toList < x.cps.toList)))) _ _ s from wpAny_pure ⟨_, rfl, by simp, h⟩) (PyProof.Rows.args_str_le _ _))
section
variable {X : Cx}
theorem aGw {pins : List (Addr × Obj)} {σ : LSt} {H : Hp} {s : Shared} (I : Inv X pins σ H s) {A : Around} : ∀ (xs ys : List D) {vs us : List V} {as bs : List Value} {t : Bool}, aW X.K H xs vs -> aW X.K H ys us -> Vals vs as -> Vals us bs -> A.units + dD xs < cLine -> cF xs = true -> cF ys = true -> aCv xs ys = .ok t -> LexW A s as bs t
 | [], [], _, _, _, _, _, ra, rb, va, vb, _, _, _, h => by
  have e := cC.mp ra; subst e; have e := cC.mp rb; subst e
  cases va; cases vb; cases h; exact .nn
 | [], _ :: _, _, _, _, _, _, ra, rb, va, vb, _, _, _, h => by
  have e := cC.mp ra; subst e; obtain ⟨_, _, rfl, _⟩ := bB.mp rb
  cases va; cases vb; cases h; exact .nc
 | _ :: _, [], _, _, _, _, _, ra, rb, va, vb, _, _, _, h => by
  have e := cC.mp rb; subst e; obtain ⟨_, _, rfl, _⟩ := bB.mp ra
  cases va; cases vb; cases h; exact .cn
 | x :: xs, y :: ys, _, _, _, _, t, ra, rb, va, vb, hu, px, py, h => by
  obtain ⟨v, r, rfl, q1, q2⟩ := bB.mp ra
  obtain ⟨u, r', rfl, q3, q4⟩ := bB.mp rb
  rw [pW] at hu
  simp only [eY, Bool.and_eq_true] at px py
  cases va with
  | cons va vas =>
   cases vb with
   | cons vb vbs =>
    have he := yQ I x y A v u _ _ q1 q3 va vb (by omega) px.1 py.1
    unfold aCv at h
    by_cases hb : eqD x y = true
    ·rw [if_pos hb] at h
     rw [hb] at he
     exact .eq he (aGw I xs ys q2 q4 vas vbs (by omega) px.2 py.2 h)
    ·rw [if_neg hb] at h
     rw [Bool.not_eq_true] at hb
     rw [hb] at he
     refine .lt he ?_
     cases x <;> cases y <;> first | (cases h; done) | skip
     ·cases h
      have e := aN.mp q1; subst e
      have e := aN.mp q3; subst e
      obtain ⟨t1, rfl⟩ := va
      obtain ⟨t2, rfl⟩ := vb
      exact fun prog wd E Q hq => (PyProof.Rows.le_int hq : wpAny (model prog wd) A (compareOp .LtE _ _) Q E s)
     ·cases h
      have e := aR.mp q1; subst e
      have e := aR.mp q3; subst e
      obtain ⟨t1, rfl⟩ := va
      obtain ⟨t2, rfl⟩ := vb
      exact fun prog wd E Q hq => (aNt hq : wpAny (model prog wd) A (compareOp .LtE _ _) Q E s)
def aV6 (K : PySem.W.Frag) : R2 := fun x y H Q => ∃ a b vs us xs ys t, x = .ref a /\ y = .ref b /\ SqT K H a vs /\ SqT K H b us /\ aW K H xs vs /\ aW K H ys us /\ dD xs <= 60 /\ cF xs = true /\ cF ys = true /\ aCv xs ys = .ok t /\ Q (.bl t) H
theorem aRs (hu : X.A.units + 64 < cLine) : OpR X (compareOp .LtE) (aV6 X.K) := by
 intro pins s σ H x y v u Q I rx ry h
 obtain ⟨a, b, vs, us, xs, ys, t, rfl, rfl, ha, hb, ra, rb, hd, px, py, hl, q⟩ := h
 cases rx
 cases ry
 obtain ⟨its, r1, p1, _⟩ := I.tuple ha
 obtain ⟨its2, r2, p2, _⟩ := I.tuple hb
 have hx := aGw I (A := X.A.in1) xs ys ra rb r1 r2 (by show X.A.units + 1 + dD xs < cLine; omega) px py hl
 obtain ⟨⟨cls, dd, data, sl⟩, ho, hc, n, hd⟩ := id p1
 obtain ⟨⟨cls2, dd2, data2, sl2⟩, ho2, hc2, n2, hd2⟩ := id p2
 simp only at hc hd hc2 hd2
 subst hc hd hc2 hd2
 refine richCompare_meets_room (op := .LtE) ⟨_, ho, rfl⟩ ⟨_, ho2, rfl⟩ PySem.F.slot_tuple_le PySem.F.entry_tuple_le (PySem.F.args_tuple_le_2 _ _) (aIe a b its.toArray its2.toArray n n2 dd dd2 sl sl2 t) ⟨ho, ho2, ?_, ?_⟩ (by omega)
 ·exact hx
 ·exact show Value.bool t ≠ Value.notImplemented /\ EP X pins σ Q (.bool t) s from ⟨(fun x => nomatch x), ⟨.bl t, H, I, rfl, q⟩⟩
theorem aNu {K : PySem.W.Frag} : qI K (aV6 K) aQk := by
 intro A H x y d v u Q w rx ry e q
 unfold aQk at e
 split at e
 ·obtain ⟨c, e⟩ := aJ e
  obtain ⟨t, ht, e⟩ := R.ok_of e
  cases e
  obtain ⟨a, vs, e1, h1, r1⟩ := rx.tup
  obtain ⟨b, us, e2, h2, r2⟩ := ry.tup
  exact ⟨a, b, vs, us, _, _, t, e1, e2, h1, h2, r1.mono (aX _ _), r2.mono (aX _ _), c.1, c.2.1, c.2.2, ht, q _ H (aP.refl _) (bA.mpr rfl)⟩
 ·cases e
end
end Pu
namespace Pu
open PySem PySem.Spec PyProof.Rows L2
theorem aRt {k : Key} {u : Value} (h : wZ k u = true) : L2.RelV (kV k) u := by
 rcases dH h with ⟨i, t, rfl, rfl⟩ | ⟨x, t, rfl, rfl⟩
 ·exact ⟨t, rfl⟩
 ·exact ⟨t, rfl⟩
section
variable {X : Cx} {B : List Addr} {a : Expr} {f : Ex} {pos p0 : Pos}
theorem aRu {kvs : List (Key × V)} {vs : List (Key × Value)} (r : KV kvs vs) : vs.length = kvs.length := by
 unfold KV at r
 induction r with
 | nil => rfl
 | cons _ _ ih => simp [ih]
end
section
variable {X : Cx} {B : List Addr} {scope : Scope} {elt tg iter c : Expr} {pos : Pos} {t : Tg} {it : ItE} {f u : Ex}
end
end Pu
namespace Pu
open PySem PySem.Spec PyProof.Rows L2
section
variable {X : Cx} {B : List Addr} {a : Expr} {f : Ex} {pos : Pos}
end
end Pu
namespace Pu
open PySem PySem.Spec PyProof.Rows L2
section
variable {X : Cx} {B : List Addr} {a b : Expr} {f g : Ex} {pos : Pos} {W : XW}
end
end Pu
namespace Pu
section
open PySem PySem.Spec PyProof.Rows L2
variable {X : Cx} {B : List Addr} {a b : Expr} {f g : Ex} {pos : Pos}
theorem aCb {K : PySem.W.Frag} : qI K (rI0 fun i j => .bl (decide (i < j))) aHk := tQ (g := fun i j => .bl (decide (i < j))) (fun _ _ _ => bA.mpr rfl) fun x y d e => by
 unfold aHk at e
 split at e
 ·cases e; exact ⟨_, _, rfl, rfl, rfl⟩
 ·cases e
theorem aLe {i j : Int} (c : (-18446744073709551616 < i /\ i < 18446744073709551616) \/ (-18446744073709551616 < j /\ j < 18446744073709551616)) : aIq i j := by
 unfold aIq
 omega
theorem pP (ha : PE X a (tP X.K B f)) (hb : PE X b (tP X.K B g)) : PE X (.BinOp a .Mult b pos) (tI X.K B (e2 pD f g)) := by
 refine aHx aPk ?_ ha hb
 intro A H x y d v u Q w rx ry e q
 unfold pD at e
 split at e
 ·obtain ⟨c, e⟩ := aJ e
  cases e
  exact ⟨_, _, rx.int, ry.int, aLe c, q _ H (aP.refl _) (aN.mpr rfl)⟩
 ·cases e
end
end Pu
namespace Pu
open PySem PySem.Spec PyProof.Rows L2
theorem aXm {K : PySem.W.Frag} {A B : List Addr} {H H1 H' : Hp} {p : Addr} {vs : List V} {ds : List D} (s1 : aP H H1) (hp : H1 p = none) (s2 : aP H1 H') (hv : H' p = some (.lst vs)) (r : aW K (hide (A ++ p :: B) H') ds vs) : ∃ G, aP H G /\ G p = none /\ upd G p (.lst vs) = H' /\ aW K (hide (A ++ B) G) ds vs := by
 let G : Hp := fun b => if b = p then none else H' b
 have gN : G p = none := if_pos rfl
 refine ⟨G, fun b o z => ?_, gN, ?_, r.mono fun b o z => ?_⟩
 ·have hb : b ≠ p := aU (s1 _ _ z) hp
  show (if b = p then none else H' b) = _
  rw [if_neg hb]
  exact s2 _ _ (s1 _ _ z)
 ·funext b
  by_cases hb : b = p
  ·subst hb; rw [bV, hv]
  ·rw [bG hb]; exact if_neg hb
 ·have hb : b ∉ A ++ p :: B := fun w => by rw [dY w] at z; cases z
  have z1 := aX _ _ _ _ z
  rw [bO fun w => hb (mem_mid.mpr (.inr w))]
  show (if b = p then none else H' b) = _
  rw [if_neg fun w => hb (mem_mid.mpr (.inl w))]
  exact z1
section
variable {X : Cx} {B : List Addr} {scope : Scope} {elt tg iter : Expr} {pos : Pos} {t : Tg} {it : ItE} {f g h : Ex} {rest : List Stmt} {i : Nat} {nb : NB}
theorem aRv (is : List Nat) (hsub : yO is t) (S : CScope X scope is) (hi : L2.PI X tg iter (tIt X.K B it)) (hg : ∀ (B : List Addr) (C : Addr) (s₀ : Shared) (H₀ : Hp) (fp : List Addr), PG (cL X scope C s₀ H₀ fp) tg (tG X.K B t))
  (he : ∀ (B : List Addr) (C : Addr) (s₀ : Shared) (H₀ : Hp) (fp : List Addr), PE (cL X scope C s₀ H₀ fp) elt (tI X.K B f)) (hc : X.calm = true) (hs : ∀ x, foldedSetIterable iter X.env x = pure x := by intro _; rfl) :
  PE X (.ListComp elt [⟨tg, iter, [], 0⟩] scope pos) (tF X.K B (cD is t it cB f)) := by
 intro pins s σ H Q I h
 obtain ⟨A, st, d, rs, hd, q⟩ := h
 obtain ⟨xs, hx, h2⟩ := R.ok_of hd
 obtain ⟨hl, h3⟩ := aJ h2
 obtain ⟨ys, hy, h4⟩ := R.ok_of h3
 cases h4
 rw [eval_ListComp]
 refine pZ (use := none) (Qf := EP X pins σ Q) (Q := Q) (tt := wW) (te := tIx X.K f) (rest := fun env it p => eval elt env >>= fun x => call (.builtin "list.append") [p, x] >>= fun _ => again (.compLoop (.ListComp elt [⟨tg, iter, [], 0⟩] scope pos) 0 it p env)) S hc hi (fun C s₀ H₀ fp => aNb fun B => hg B C s₀ H₀ fp) (fun _ _ _ => nU)
  (fun C s₀ H₀ fp it p s Q h => aRh (Y := cL X scope C s₀ H₀ fp) h) (fun C s₀ H₀ fp it p τ H s pins vs N Q I h q => aKr (Y := cL X scope C s₀ H₀ fp) rfl (aNa fun B => he B C s₀ H₀ fp) τ H s pins vs N Q I h (fun Q Q' m h => tZ Q Q' m h) q) hs I
  (aGi hsub (fun τ H Q ⟨B, A, st, k, rs, hk, q⟩ => ?_) rs hx hl hy fun p vs H1 H' s1 hp s2 hv r => ?_) fun C p H5 s5 m5 s3 H3 fp τ hC I3 hfp I5 hn5 q5 => ⟨m5, hn5, fun h' hs' => ⟨.ref p, H5, wV I3 hfp hC I5 hs', rfl, q5⟩⟩
 ·obtain ⟨G, g1, g2, g3, g4⟩ := aXm s1 hp s2 hv r
  have := q p vs G g1 g2 g4
  rw [g3] at this
  exact this
 ·cases hk
  exact q H (aP.refl _)
end
end Pu
namespace Pu
open PySem PySem.Spec PyProof.Rows L2
def aDy (v d : Addr) : HO := .ext fun h => h.IsItemsView v d
section
variable {X : Cx} {pins : List (Addr × Obj)} {σ : List (Option V)} {H H' : Hp} {s : Shared} {h' : Heap}
theorem aLf {t' : Nat} (I : Inv X pins σ H s) (k : ∀ b u, s.heap.get? b = some u -> h'.get? b = some u) (sm : aP H H') (hn : ∀ b, b < s.heap.objs.size -> H' b = H b) (new : ∀ a o, H a = none -> H' a = some o -> gD X.prog X.w H' h' a o) : Inv X pins σ H' { s with heap := h', toks := t' } := by
 refine I.un ⟨fun b u q _ _ _ => k b u q, fun b u q _ _ _ => ⟨u.slots, k b u q⟩, fun b u q n _ => by rw [hn b (Heap.lt_size q)]; exact n, fun b u q _ => ⟨u, k b u q⟩, fun b xs q => sm _ _ q, fun b u xs q => sm _ _ q, fun b ps q => ⟨#[], by rw [sm _ _ q]; simp⟩⟩ fun a o e => ?_
 cases hH : H a with
 | none => exact new a o hH e
 | some u =>
  have z := sm a u hH
  rw [e] at z
  cases z
  exact (I.hok a _ hH).stay (fun b v _ q => k b v q) (fun b q => sm _ _ q) fun b xs q => sm _ _ q
theorem aLg : MtR X "dict.items" (fun x vs H Q => ∃ (d : Addr) (kvs : List (Key × V)), x = .ref d /\ vs = [] /\ H d = some (.dK kvs) /\ ∀ n, H n = none -> Q (.ref n) (upd H n (aDy n d))) := by
 intro pins s σ H x vs v us Q I rx rv h
 obtain ⟨d, kvs, rfl, rfl, hd, q⟩ := h
 cases rx
 have hus := rv.zero
 subst hus
 obtain ⟨hz, hs, xs, kv, hD⟩ := aFl I.hok hd
 refine call_meetsIn PySem.F.slot_dict_items hD.typeIs PySem.F.entry_dict_items (PySem.F.args_dict_items_1 _) (meets_dict_items (dO X.prog X.w) d hs) ⟨⟨xs, hD⟩, ?_⟩
 have e : (s.heap.push { cls := .type "dict_items", data := .fields #[.ref d] }).get? s.heap.objs.size = some { cls := .type "dict_items", data := .fields #[.ref d] } := Heap.get?_push_size _ rfl
 exact ⟨.ref s.heap.objs.size, _, I.laid (o := aDy s.heap.objs.size d) (t' := s.toks) (fun b u q => Heap.get?_push_of_some _ q) (Nat.le_refl _) ⟨⟨_, e, rfl, rfl⟩, ⟨_, e⟩, fun h1 h2 ⟨o, ho, hc, hd⟩ k => ⟨o, k o ho, hc, hd⟩⟩, rfl, q _ (I.hok.fresh (Nat.le_refl _))⟩
theorem aFa : ∀ {kvs : List (Key × V)} {vs : List (Key × Value)} {j : Nat} {k : Key} {x : Value}, KV kvs vs -> vs[j]? = some (k, x) -> ∃ p, kvs[j]? = some p /\ p.1 = k /\ RelV p.2 x
 | _, _, j, k, x, .nil, e => by simp at e
 | _, _, 0, k, x, .cons h _, e => by
  simp at e
  subst e
  exact ⟨_, rfl, h.1, h.2⟩
 | _, _, j + 1, k, x, .cons _ t, e => by
  obtain ⟨p, e1, e2⟩ := aFa (j := j) (k := k) (x := x) t (by simpa using e)
  exact ⟨p, by simpa using e1, e2⟩
theorem aFb (hc : X.calm = true) : jV X (.type "list") (fun vs H Q => ∃ (v d : Addr) (kvs : List (Key × V)), vs = [.ref v] /\ H v = some (aDy v d) /\ H d = some (.dK kvs) /\
  ∀ (n : Addr) (ps : List Addr) (H' : Hp), aP H H' -> H' n = none -> ps.length = kvs.length -> (∀ a ∈ ps, H a = none) -> (∀ (j : Nat) (a : Addr), ps[j]? = some a -> ∃ p, kvs[j]? = some p /\ H' a = some (.tup [kV p.1, p.2])) -> Q (.ref n) (upd H' n (.lst (ps.map V.ref)))) := by
 intro pins s σ H vs us Q I r h
 obtain ⟨v, d, kvs, rfl, hv, hd, q⟩ := h
 obtain ⟨u, rfl, ru⟩ := r.one
 obtain rfl : u = Value.ref v := ru
 obtain ⟨hz, hs, xs, kv, hD⟩ := aFl I.hok hd
 have hlen := aRu kv
 obtain ⟨ep, hat⟩ := hD.dictAt
 obtain ⟨hview, _, _⟩ := I.hok v _ hv
 refine PySem.W.kdx_call (knd := dO X.prog X.w) (I.ok.hd hc) hview hat (by omega) fun h' tk acc c as hk hS hl hG hacc => ?_
 have nd : as.Nodup := hG.rise.imp Nat.ne_of_lt
 have lo : ∀ a ∈ as, s.heap.objs.size < a := hG.above
 have nn : ∀ a ∈ as, H a = none := fun a ha => I.hok.fresh (Nat.le_of_lt (lo a ha))
 let G : Hp := fun b => if b ∈ as then (kvs[as.idxOf b]?).map (fun p => .tup [kV p.1, p.2]) else H b
 have sG : aP H G := fun b o e => by
  show (if b ∈ as then _ else H b) = _
  rw [if_neg fun z => by rw [nn b z] at e; cases e]
  exact e
 have gN : G s.heap.objs.size = none := by
  show (if _ ∈ as then _ else H _) = _
  rw [if_neg fun z => Nat.lt_irrefl _ (lo _ z)]
  exact I.hok.fresh (Nat.le_refl _)
 have gA : ∀ (j : Nat) (a : Addr), as[j]? = some a -> ∃ p, kvs[j]? = some p /\ G a = some (.tup [kV p.1, p.2]) := fun j a e => by
  obtain ⟨key, k, x, e1, e2, e3⟩ := hG.pairs j a e
  obtain ⟨p, e4, e5, e6⟩ := aFa kv e1
  refine ⟨p, e4, ?_⟩
  show (if a ∈ as then _ else H a) = _
  rw [if_pos (List.mem_of_getElem? e)]
  obtain ⟨hj, ej⟩ := List.getElem?_eq_some_iff.mp e
  rw [<- ej, nd.idxOf_getElem j hj, e4]
  rfl
 refine ⟨.ref s.heap.objs.size, _, aLf (H' := upd G s.heap.objs.size (.lst (as.map V.ref))) (t' := tk) I hk (sG.trans (cI gN)) (fun b hb => ?_) (fun a o ha e => ?_), rfl, q _ as G sG gN (by rw [hl]; exact hlen) nn gA⟩
 ·rw [bG (Nat.ne_of_lt hb)]
  show (if b ∈ as then _ else H b) = _
  rw [if_neg fun z => Nat.lt_irrefl _ (Nat.lt_trans hb (lo _ z))]
 ·by_cases hb : a = s.heap.objs.size
  ·subst hb
   rw [bV] at e
   cases e
   refine ⟨by rw [List.length_map, hl]; omega, acc.toList, c, ?_, by simpa using hS⟩
   rw [hacc]
   clear hacc hG nd lo nn gA sG gN hl G
   induction as with
   | nil => exact .nil
   | cons a as ih => exact .cons rfl ih
  ·rw [bG hb] at e
   have ha' : a ∈ as := by
    refine Classical.byContradiction fun z => ?_
    have e' : (if a ∈ as then (kvs[as.idxOf a]?).map (fun p => HO.tup [kV p.1, p.2]) else H a) = some o := e
    rw [if_neg z, ha] at e'
    cases e'
   obtain ⟨j, hj⟩ := List.mem_iff_getElem?.mp ha'
   obtain ⟨p, e1, e2⟩ := gA j a hj
   obtain ⟨key, k, x, f1, f2, f3⟩ := hG.pairs j a hj
   obtain ⟨p', g1, g2, g3⟩ := aFa kv f1
   rw [e1] at g1
   cases g1
   rw [e2] at e
   cases e
   refine ⟨by rw [sizeLine_eq]; show 2 <= 16777216; decide, [key, x], .cons ?_ (.cons g3 .nil), _, f3, ?_⟩
   ·rw [g2]
    exact aRt f2
   ·exact ⟨rfl, _, rfl⟩
theorem zA {K : PySem.W.Frag} {H : Hp} : ∀ (kvs : List (Key × V)) (ds : List D) (ps : List Addr), aW K H ds (kvs.map (·.2)) -> ps.length = kvs.length -> (∀ (j : Nat) (a : Addr), ps[j]? = some a -> ∃ p, kvs[j]? = some p /\ H a = some (.tup [kV p.1, p.2])) -> aW K H (List.zipWith (fun k d => .tup [k, d]) (kvs.map fun p => iQ p.1) ds) (ps.map V.ref)
 | [], ds, ps, _, hl, _ => by
  rw [List.length_eq_zero_iff.mp hl]
  exact .nil
 | p :: kvs, [], ps, r, _, _ => by
  have := r.length
  simp at this
 | p :: kvs, d :: ds, [], _, hl, _ => by simp at hl
 | p :: kvs, d :: ds, a :: ps, r, hl, h => by
  obtain ⟨v, rest, e, r1, r2⟩ := bB.mp r
  cases e
  obtain ⟨p', e1, e2⟩ := h 0 a rfl
  cases e1
  refine .cons (lL.mpr ⟨a, _, rfl, e2, .cons ?_ (.cons r1 .nil)⟩) (zA kvs ds ps r2 (by simpa using hl) fun j b hj => ?_)
  ·obtain ⟨k, v⟩ := p
   cases k with
   | inl i => exact aN.mpr rfl
   | inr x => exact aR.mpr (by simp [kV])
  ·obtain ⟨p', e1, e2⟩ := h (j + 1) b (by simpa using hj)
   exact ⟨p', by simpa using e1, e2⟩
end
section
variable {X : Cx} {B : List Addr} {a e : Expr} {es : List Expr} {f : Ex} {pos p0 apos cpos : Pos} {sm : Stmt} {rest : List Stmt} {bd bd' : Bd} {r : Exs}
theorem aNv (hm : X.mg "list" = none) (hc : X.calm = true) (ha : PE X a (tI X.K B f)) (hg : Gl X "list" := by rfl) (hbase : attributeBase a "items" X.env (eval a X.env) = eval a X.env := by rfl) (hline : (apos.endLine == cpos.line) = true := by rfl)
  (hs : starEach [.Call (.Attribute a "items" apos) [] [] cpos] X.env = (false, eval (.Call (.Attribute a "items" apos) [] [] cpos) X.env) :: starEach [] X.env := by rfl) : PE X (.Call (.Name "list" p0) [.Call (.Attribute a "items" apos) [] [] cpos] [] pos) (tF X.K B (e1 xT f)) := by
 refine cH (uK (aFb hc) hg hm (by rfl) (cW (aJ2 PySem.F.plainAttrs_dict PySem.F.slot_dict_items PySem.F.type_dict_items aLg ha hbase hline) fK hs) (he := hs)) ?_
 rintro σ H Q ⟨A, st, ds, rs, hd, q⟩
 obtain ⟨x, hx, h2⟩ := R.ok_of hd
 refine ⟨A, st, x, rs, hx, fun v H1 s1 r1 => ?_⟩
 unfold xT at h2
 split at h2
 ·obtain ⟨c, h3⟩ := aJ h2
  cases h3
  obtain ⟨p, vs, rfl, h4, r4⟩ := tL.mp r1
  rcases h4 with ⟨_, kvs, h5, rfl, rfl⟩ | ⟨h5, _⟩
  ·have h6 := aX _ _ _ _ h5
   refine ⟨.inr (.inr (.inl ⟨rfl, .inl ⟨kvs, h6⟩⟩)), p, kvs, rfl, rfl, h6, fun n hn => ⟨n, p, kvs, rfl, bV, by rw [bG (aU h6 hn)]; exact h6, fun m ps H' s2 hm' hl hps hp => ?_⟩⟩
   have s3 := (cI (o := aDy n p) hn).trans s2
   refine q m _ H' (s1.trans s3) hm' (zA kvs _ ps (r4.mono (aP.hide s3)) hl fun j b hj => ?_)
   obtain ⟨p', e1, e2⟩ := hp j b hj
   have hb := hps b (List.mem_of_getElem? hj)
   exact ⟨p', e1, by rw [bO ((rs.own.mono (s1.trans (cI (o := aDy n p) hn))).free hb)]; exact e2⟩
  ·cases h5
 ·cases h2
def tSR (K : PySem.W.Frag) (B : List Addr) (b : Bd) (f : Ex) : TS := fun Dn σ H => ∃ A st st' xs, RS K B A H st σ /\ b st = .ok (.nx st') /\ f st' = .ok (.lst xs) /\ ∀ A' a vs H', Le A H A' H' -> a ∈ A' -> H' a = some (.lst vs) -> aW K (hide (A' ++ B) H') xs vs -> Dn.rt (.ref a) H'
theorem aNw (h1 : PS X sm (tS X.K B bd)) (h2 : PSs X rest (tSR X.K B bd' f)) : PSs X (sm :: rest) (tSR X.K B (bQ bd bd') f) := lW (rW h1 h2) (by
 rintro Dn σ H ⟨A, st, st', xs, rs, hb, hi, q⟩
 unfold bQ xN at hb
 obtain ⟨fl, hfl, h3⟩ := R.ok_of hb
 refine ⟨A, st, fl, rs, hfl, ?_⟩
 cases fl with
 | nx s1 => exact fun A' σ' H' l rs' => ⟨A', s1, st', xs, rs', h3, hi, fun A2 a vs H2 l2 => q A2 a vs H2 (l.trans l2)⟩
 | rt d => cases h3
 | bk s1 => cases h3
 | ct s1 => cases h3)
theorem aRw (he : PE X e (tF X.K B f)) : PSs X [.Return (some e) pos] (tSR X.K B dG f) := lW (wK (aE5 he)) (by
 rintro Dn σ H ⟨A, st, st', xs, rs, hb, hf, q⟩
 cases hb
 exact ⟨A, st, xs, rs, hf, fun p vs H' s hp r => q (p :: A) p vs (upd H' p (.lst vs)) ((Le.of s).trans (aC3 hp)) List.mem_cons_self bV (r.mono (tU hp))⟩)
end
section
variable {P : Program} {w : World} {K : PySem.W.Frag} {mg : Str -> Option Value} {base : Heap} {x qual : Str} {st : Stmt} {dV : Value} {f : Addr} {fd : FuncData} {N ps : List Str} {k : Nat}
theorem aXn (F : FunD K x qual st dV f fd) (S : FnScope N ps (aF st)) (np n : Nat) (bd : Bd) (g : Ex) (hnp : ps.length = np) (hn : N.length = n)
  (hb : ∀ (cdv : Value) (A : Around) (outer : List Env) (s : Shared) (H : Hp) (E : XK) (B : List Addr), Room k (A.deeper (envOfC qual (aF st) s.heap.objs.size f cdv)) ->
   PSs (rZ CX0 P w K mg base N qual (aF st) f cdv A outer s H E).nox (bD st) (tSR K B bd g)) : FnOk P w K mg base CX0 (k + 1) f fd ps (spF K np (eN np n (sV bd g))) := by
 refine F.okX S (fun vs H Q E h => ?_) (fun cdv A outer s H vs Q E hr h => ?_)
 ·obtain ⟨A, ds, d, own, r, hl, _⟩ := h
  rw [r.length, hl, hnp]
 ·obtain ⟨B, ds, xs, own, r, hl, hp, q⟩ := h
  refine ⟨tSR K B bd g, hb cdv A outer s H E B hr, ?_⟩
  obtain ⟨_, h2⟩ := aJ hp
  obtain ⟨fl, hfl, h3⟩ := R.ok_of h2
  have rs := tY (N := N) own r
  rw [hl, hn] at rs
  unfold sV at hfl
  split at hfl
  ·rename_i s1 hf1
   obtain ⟨d, hd, h4⟩ := R.ok_of hfl
   split at h4
   ·cases h4
    cases h3
    refine ⟨[], _, s1, _, rs, hf1, hd, fun A' a vs' H' l ha hv rv => ?_⟩
    have sm : aP H H' := by
     unfold Le at l
     rw [lM] at l
     exact l.trans (aX _ _)
    refine q a vs' H' sm ?_ hv (rv.mono (dI fun b hb => ?_))
    ·cases hH : H a with
     | none => rfl
     | some o =>
      have z := l a o (by rw [lM]; exact hH)
      rw [dY ha] at z; cases z
    ·rcases List.mem_cons.mp hb with rfl | hb
     ·exact List.mem_append_left _ ha
     ·exact List.mem_append_right _ hb
   ·cases h4
  ·cases hfl
theorem aIf {np n : Nat} {bd : Bd} {g : Ex} (ds : List D) (d : D) (h : eN np n (sV bd g) ds = .ok d) : ∃ xs, d = .lst xs := by
 obtain ⟨_, h2⟩ := aJ h
 obtain ⟨fl, hfl, h3⟩ := R.ok_of h2
 unfold sV at hfl
 split at hfl
 ·obtain ⟨d, hd, h4⟩ := R.ok_of hfl
  split at h4
  ·cases h4; cases h3; exact ⟨_, rfl⟩
  ·cases h4
 ·cases hfl
end
structure DefOkF (P : Program) (w : World) (K : PySem.W.Frag) (mg : Str -> Option Value) (base : Heap) (x : Str) (k np : Nat) (p : List D -> R D) : Prop where
 ex : ∃ (fa : Addr) (fd : FuncData) (ps : List Str), FnOk P w K mg base CX0 k fa fd ps (spF K np p) /\ mg x = some (.ref fa) /\ PySem.W.keepIn K (.ref fa) = true /\ Binds K fd ps []
 len : ∀ ds d, p ds = .ok d -> ds.length = np
 lst : ∀ ds d, p ds = .ok d -> ∃ xs, d = .lst xs
theorem DefOkF.of {P : Program} {w : World} {K : PySem.W.Frag} {mg : Str -> Option Value} {base : Heap} {x : Str} {k np n : Nat} {bd : Bd} {g : Ex} {fa : Addr} {fd : FuncData} {ps : List Str} (h : FnOk P w K mg base CX0 k fa fd ps (spF K np (eN np n (sV bd g)))) (m : mg x = some (.ref fa))
  (kp : PySem.W.keepIn K (.ref fa) = true) (b : Binds K fd ps []) : DefOkF P w K mg base x k np (eN np n (sV bd g)) := ⟨⟨fa, fd, ps, h, m, kp, b⟩, cO, aIf⟩
theorem DefOkF.plain {P : Program} {w : World} {K : PySem.W.Frag} {mg : Str -> Option Value} {base : Heap} {x : Str} {k np : Nat} {p : List D -> R D} (h : DefOkF P w K mg base x k np p) : DefOk P w K mg base x k np p := by
 obtain ⟨fa, fd, ps, F, m, kp, bd⟩ := h.ex
 exact ⟨⟨fa, fd, ps, aAy h.lst F, m, kp, bd⟩, h.len⟩
section
variable {X : Cx} {B : List Addr} {e : Expr} {es : List Expr} {r : Exs} {pos p0 : Pos}
theorem aNx {x : Str} {k j np : Nat} {p : List D -> R D} (h : DefOkF X.prog X.w X.K X.mg X.base x k np p) (hr : Room j X.A) (hk : k <= j) (ha : PA X (e :: es) (tA X.K B r)) (hg : Gl X x := by rfl) (hdb : (x == ("__debug__" : Str)) = false := by decide)
  (he : starEach (e :: es) X.env = (false, eval e X.env) :: starEach es X.env := by rfl) (hpl : (backTo pos (starEach es X.env)).any (·.1) = false := by rfl) : PE X (.Call (.Name x p0) (e :: es) [] pos) (tF X.K B (bN p r)) := by
 obtain ⟨fa, fd, ps, F, m, kp, bd⟩ := h.ex
 refine cH (aB6 F (hr.mono hk) hg m kp bd .nil zV ha hdb he hpl) ?_
 rintro σ H Q ⟨A, st, d, rs, hd, q⟩
 obtain ⟨xs, hx, h2⟩ := R.ok_of hd
 refine ⟨A, st, xs, rs, hx, fun vs H1 s1 r1 => ?_⟩
 show spF X.K np p (vs ++ []) H1 Q E0
 rw [List.append_nil]
 refine ⟨A ++ B, xs, d, rs.own.mono s1, r1, h.len _ _ h2, h2, fun a ws H' s' ha' hv rv => ?_⟩
 have e0 : upd (hide [a] H') a (.lst ws) = H' := by
  funext b
  by_cases hb : b = a
  ·subst hb; rw [bV]; exact hv.symm
  ·rw [bG hb, bO (by simpa using hb)]
 have z := q a ws (hide [a] H') (fun b u hz => ?_) (dY (by simp)) ?_
 ·rw [e0] at z; exact z
 ·have hz2 := s1 _ _ hz
  rw [bO (by simpa using aU hz2 ha')]
  exact s' _ _ hz2
 ·refine rv.mono fun b u hz => ?_
  have hb : b ∉ a :: (A ++ B) := fun y => by rw [dY y] at hz; cases hz
  rw [bO fun y => hb (List.mem_cons_of_mem _ y), bO (by simpa using fun y => hb (by rw [y]; exact List.mem_cons_self))]
  exact aX _ _ _ _ hz
end
theorem aB0 {K : PySem.W.Frag} {H G : Hp} : ∀ {ds : List D} {vs : List V}, ds.all aJm = true -> aW K H ds vs -> aW K G ds vs
 | [], vs, _, r => by rw [cC.mp r]; exact .nil
 | d :: ds, vs, h, r => by
  obtain ⟨v, rest, rfl, r1, r2⟩ := bB.mp r
  rw [List.all_cons, Bool.and_eq_true] at h
  refine .cons ?_ (aB0 h.2 r2)
  have hd := h.1
  cases d <;> first | (cases hd; done) | skip
  ·exact aN.mpr (aN.mp r1)
  ·exact aR.mpr (aR.mp r1)
section
variable {X : Cx} {B : List Addr} {e : Expr} {pos : Pos} {f : Ex}
theorem aRx (i : Nat) (fr : List Nat) {x : Str} {pos' : Pos} (he : PE X e (tF X.K B f)) (hN : X.N.Nodup) (hi : X.N[i]? = some x := by rfl) (hx : Loc X.env.scope x := by first | exact Or.inl rfl | exact Or.inr rfl) (hs : swapsWith e (some (.Name x pos')) pos.line X.env = pure false := by rfl)
  (hf : X.fn x = true \/ X.env.scope.names.lookup x = some .local := by first | exact .inl rfl | exact .inr rfl | assumption) : PS X (.Assign [.Name x pos'] e pos) (tS X.K B (aOv i fr f)) := dU (uH hN hi hx he hs hf) (by
 rintro Dn σ H ⟨A, st, r, rs, hr, p⟩
 obtain ⟨d, hd, h3⟩ := R.ok_of hr
 obtain ⟨A', rs', _⟩ := RS.fz fr rs
 split at h3
 ·split at h3
  ·rename_i ys hfl
   cases h3
   refine ⟨A', _, ys, rs', hd, fun a vs H' s hn q => p A _ _ (Le.of (s.trans (cI hn))) ((rs.mono (s.trans (cI hn))).set i (bL.mpr ⟨a, vs, rfl, SqL.of ?_, aB0 hfl q⟩))⟩
   rw [bO ((rs.own.mono s).free hn)]
   exact bV
  ·cases h3
 ·cases h3)
end
end Pu
namespace Pu
open PySem PySem.Spec PyProof.Rows L2 PySem.Calls Builtin Builtin.ObjectAttr
section
variable {prog : Program} {w : World} {A : Around} {E : Value -> Shared -> Prop} {R : Result -> Shared -> Prop} {s : Shared} {K : PySem.W.Frag} {x dx C : Addr} {mA : Str -> Option Value} {name : Str} {v : Value} {ox : Obj}
end
section
variable {prog : Program} {w : World} {A : Around} {E : Value -> Shared -> Prop} {hp : Heap} {gs : Array GenState} {dn : Drawn} {tn : Nat} {os : OsState}
variable {n0 q : Str} {C N : Addr} {l0 l1 l2 : List Value} {z0 : Bool} {l3 : List Str} {l4 : List Value} {z1 : Bool} {z2 : Option Bool} {z3 : Option Addr} {k0 k1 k2 k3 k5 : Option Value} {B newId initId : String}
end
section
variable {X : Cx} {pins : List (Addr × Obj)} {σ : List (Option V)} {H : Hp} {s : Shared} {h' : Heap} {x dx C : Addr}
end
section
variable {X : Cx} {B : List Addr} {o e value : Expr} {f : Str} {pos pos' : Pos} {ta tv : TE}
end
section
variable {X : Cx} {B : List Addr} {e : Expr} {es : List Expr} {r : Exs} {pos p0 : Pos}
end
section
variable {P : Program} {w : World} {K : PySem.W.Frag} {mg : Str -> Option Value} {base : Heap} {x qual : Str} {st : Stmt} {dV : Value} {f : Addr} {fd : FuncData} {N ps : List Str} {k : Nat}
end
section
variable {X : Cx} {B : List Addr} {e : Expr} {es : List Expr} {r : Exs} {pos p0 : Pos}
end
end Pu
set_option maxHeartbeats 4000000
namespace Pu
open PySem PySem.Spec PyProof.Rows L2
def top (i : Nat) : Stmt := PySem.Challenge.pw_looprank_k17_rooms_come_to.main.body.getD i (.Pass ⟨0, 0, 0, 0⟩)
def inCls (s : Stmt) (j : Nat) : Stmt := match s with
 | .ClassDef _ _ _ b _ _ _ _ _ _ _ => b.getD j (.Pass ⟨0, 0, 0, 0⟩)
 | _ => .Pass ⟨0, 0, 0, 0⟩
abbrev iB : Stmt := top 25
abbrev jJ : Stmt := top 26
abbrev fG : Stmt := top 27
abbrev iC : Stmt := top 28
abbrev iD : Stmt := top 21
abbrev dX : Stmt := top 22
abbrev fH : Stmt := top 30
abbrev fZ : Stmt := top 31
abbrev gB : Stmt := top 32
abbrev dJ : Stmt := top 15
abbrev jK : Stmt := top 13
abbrev jL : Stmt := top 14
abbrev nJ : Stmt := top 16
abbrev iG : Stmt := top 17
abbrev iH : Stmt := top 18
abbrev dB : Stmt := inCls (top 19) 0
abbrev lA : Stmt := top 23
abbrev iI : Stmt := top 29
abbrev lB : Stmt := top 8
abbrev gC : Stmt := top 9
abbrev cP : Stmt := inCls (top 19) 1
abbrev cJ : Stmt := inCls (top 19) 3
abbrev eV : Stmt := inCls (top 19) 6
abbrev eX : Stmt := inCls (top 19) 7
abbrev uA : Stmt := top 33
theorem uB : FnScope ["_law_script", "_law_k"] ["_law_script", "_law_k"] (aF iB) := ⟨rfl, rfl, rfl, by decide +kernel, rfl, by decide +kernel, by decide +kernel⟩
theorem vX : FnScope ["_law_cell_here", "_law_k", "_law_many", "_law_number"] ["_law_cell_here", "_law_k", "_law_many"] (aF jJ) := ⟨rfl, rfl, rfl, by decide +kernel, rfl, by decide +kernel, by decide +kernel⟩
theorem pQ : FnScope ["_law_cell_here", "_law_many", "_law_count", "_law_row", "_law_k"] ["_law_cell_here", "_law_many", "_law_count"] (aF fG) := ⟨rfl, rfl, rfl, by decide +kernel, rfl, by decide +kernel, by decide +kernel⟩
theorem uC : FnScope ["_law_script", "_law_most", "_law_first", "_law_many", "_law_count", "_law_steps", "_law_way", "_law_ranks", "_law_k", "_law_rank", "_law_j"] ["_law_script", "_law_most"] (aF iC) := ⟨rfl, rfl, rfl, by decide +kernel, rfl, by decide +kernel, by decide +kernel⟩
theorem uD : FnScope ["steps", "start", "allowed", "ways", "met", "place", "here", "letter", "room"] ["steps", "start", "allowed"] (aF iD) := ⟨rfl, rfl, rfl, by decide +kernel, rfl, by decide +kernel, by decide +kernel⟩
theorem nM : FnScope ["machine", "ways"] ["machine"] (aF dX) := ⟨rfl, rfl, rfl, by decide +kernel, rfl, by decide +kernel, by decide +kernel⟩
theorem pR : FnScope ["_law_steps", "_law_room", "_law_text", "_law_letter"] ["_law_steps", "_law_room", "_law_text"] (aF fH) := ⟨rfl, rfl, rfl, by decide +kernel, rfl, by decide +kernel, by decide +kernel⟩
theorem qY : FnScope ["_law_one", "_law_other"] ["_law_one", "_law_other"] (aF fZ) := ⟨rfl, rfl, rfl, by decide +kernel, rfl, by decide +kernel, by decide +kernel⟩
theorem qZ : FnScope ["_law_steps", "_law_found", "_law_fronts", "_law_last", "_law_room", "_law_front", "_law_j", "_law_goal", "_law_one"] ["_law_steps", "_law_found"] (aF gB) := ⟨rfl, rfl, rfl, by decide +kernel, rfl, by decide +kernel, by decide +kernel⟩
theorem lX : FnScope ["thing", "most"] ["thing", "most"] (aF dJ) := ⟨rfl, rfl, rfl, by decide +kernel, rfl, by decide +kernel, by decide +kernel⟩
theorem vY : FnScope ["thing"] ["thing"] (aF jK) := ⟨rfl, rfl, rfl, by decide +kernel, rfl, by decide +kernel, by decide +kernel⟩
theorem vZ : FnScope ["thing", "limit"] ["thing", "limit"] (aF jL) := ⟨rfl, rfl, rfl, by decide +kernel, rfl, by decide +kernel, by decide +kernel⟩
theorem aB1 : FnScope ["thing", "letters", "rooms", "room"] ["thing", "letters", "rooms"] (aF nJ) := ⟨rfl, rfl, rfl, by decide +kernel, rfl, by decide +kernel, by decide +kernel⟩
theorem uE : FnScope ["thing", "row"] ["thing"] (aF iG) := ⟨rfl, rfl, rfl, by decide +kernel, rfl, by decide +kernel, by decide +kernel⟩
theorem uF : FnScope ["thing", "rooms", "rank"] ["thing", "rooms"] (aF iH) := ⟨rfl, rfl, rfl, by decide +kernel, rfl, by decide +kernel, by decide +kernel⟩
theorem kJ : FnScope ["self", "steps", "ranks", "row"] ["self", "steps", "ranks"] (aF dB) := ⟨rfl, rfl, rfl, by decide +kernel, rfl, by decide +kernel, by decide +kernel⟩
theorem zB : FnScope ["machine", "rooms", "steps", "room", "front", "place"] ["machine"] (aF lA) := ⟨rfl, rfl, rfl, by decide +kernel, rfl, by decide +kernel, by decide +kernel⟩
theorem uG : FnScope ["_law_cell_here", "_law_size", "_law_count", "_law_k", "_law_digit"] ["_law_cell_here", "_law_size", "_law_count"] (aF iI) := ⟨rfl, rfl, rfl, by decide +kernel, rfl, by decide +kernel, by decide +kernel⟩
theorem zE : FnScope ["thing", "many"] ["thing", "many"] (aF lB) := ⟨rfl, rfl, rfl, by decide +kernel, rfl, by decide +kernel, by decide +kernel⟩
theorem rA : FnScope ["thing", "many"] ["thing", "many"] (aF gC) := ⟨rfl, rfl, rfl, by decide +kernel, rfl, by decide +kernel, by decide +kernel⟩
theorem jB : FnScope ["self", "thing"] ["self", "thing"] (aF cP) := ⟨rfl, rfl, rfl, by decide +kernel, rfl, by decide +kernel, by decide +kernel⟩
theorem iV : FnScope ["self", "room", "text", "rooms", "letter"] ["self", "room", "text"] (aF cJ) := ⟨rfl, rfl, rfl, by decide +kernel, rfl, by decide +kernel, by decide +kernel⟩
theorem oG : FnScope ["self", "word", "room", "rooms", "begun", "ahead"] ["self", "word", "room"] (aF eV) := ⟨rfl, rfl, rfl, by decide +kernel, rfl, by decide +kernel, by decide +kernel⟩
theorem oH : FnScope ["self", "word", "room", "ring", "place"] ["self", "word", "room"] (aF eX) := ⟨rfl, rfl, rfl, by decide +kernel, rfl, by decide +kernel, by decide +kernel⟩
theorem aLh : FnScope ["_law_script", "_law_count", "_law_machine", "_law_found", "_law_order", "_law_less", "_law_k", "_law_steps", "_law_ranks", "_law_cell_here", "_law_turn", "_law_word_here", "_law_step", "_law_room", "_law_front", "_law_goal"] ["_law_script"] (aF uA) := ⟨rfl, rfl, rfl, by decide +kernel, rfl, by decide +kernel, by decide +kernel⟩
section
variable {P : Program} {w : World} {K : PySem.W.Frag} {mg : Str -> Option Value} {base : Heap}
theorem aDz {fa : Addr} {fd : FuncData} {dV : Value} (F : FunD K "_law_cell" "_law_cell" iB dV fa fd)
  (b_len : mg "len" = none) : FnOk P w K mg base CX0 1 fa fd ["_law_script", "_law_k"] (spI K 2 bM) := by
 refine iU (k := 0) F uB 2 2 pF rfl rfl fun cdv A outer s H E B hr => ?_
 have nd := uB.nd
 refine aV ?_ ?_
 ·exact mQ (dW aIs aCb (toP (aA 1)) (toP (gH b_len (toP (aA 0)))) (cR _)) (cA (dC (fU hr.units (toP (aA 0)) (toP (aA 1))))) (gG)
 refine aV ?_ ?_
 ·exact mQ (dW (mV hr.units) mX (toP (gH b_len (toP (aA 0)))) (toP (aZ)) (cR _)) (cA (dC (jA (toP (pP (toP (aZ)) (toP (aA 1)))) (toP (aZ))))) (gG)
 exact cA (dC (jA (toP (fU hr.units (toP (aA 0)) (toP (oE (toP (pP (toP (aA 1)) (toP (aZ)))) (toP (gH b_len (toP (aA 0)))))))) (toP (pP (toP (aZ)) (toP (aA 1))))))
theorem aFc {fa : Addr} {fd : FuncData} {dV : Value} (F : FunD K "_law_mix" "_law_mix" jJ dV fa fd)
     : FnOk P w K mg base CX0 1 fa fd ["_law_cell_here", "_law_k", "_law_many"] (spI K 3 bY) := by
 refine iU (k := 0) F vX 3 4 rD rfl rfl fun cdv A outer s H E B hr => ?_
 have nd := vX.nd
 refine aV ?_ ?_
 ·exact eZ 3 (oE (toP (pP (toP (jA (toP (jA (toP (oE (toP (aA 0)) (toP (aZ)))) (toP (pP (toP (aZ)) (toP (aA 1)))))) (toP (aZ)))) (toP (aZ)))) (toP (aZ))) nd
 refine aV ?_ ?_
 ·exact eZ 3 (oE (toP (pP (toP (oE (toP (pP (toP (aA 3)) (toP (aA 3)))) (toP (aZ)))) (toP (aZ)))) (toP (aZ))) nd
 exact cA (dC (oE (toP (oE (toP (pP (toP (aA 3)) (toP (aA 3)))) (toP (aZ)))) (toP (aA 2))))
theorem zN {fa : Addr} {fd : FuncData} {dV : Value} (F : FunD K "_law_digits" "_law_digits" fG dV fa fd)
  (b_range : mg "range" = none) : FnOk P w K mg base CX0 1 fa fd ["_law_cell_here", "_law_many", "_law_count"] (spI K 3 eE) := by
 refine iU (k := 0) F pQ 3 5 mF rfl rfl fun cdv A outer s H E B hr => ?_
 have nd := pQ.nd
 refine aV ?_ ?_
 ·exact uW 3 (aGe (bC)) nd
 refine aV ?_ ?_
 ·exact tW (tX b_range (toP (aA 2))) (cV 4 nd) (aV (by exact aGl 3 (oE (toP (aA 0)) (toP (aA 1)))) (by exact cA (eZ 0 (aKj (toP (aA 0)) (toP (aA 1))) nd))) PassesOwn.never rfl
 exact cA (aR8 [3] (dC (aA 3)))
theorem aE0 {fa : Addr} {fd : FuncData} {dV : Value} (F : FunD K "_law_made" "_law_made" iC dV fa fd)
  (h__law_cell : DefOk P w K mg base "_law_cell" 1 2 bM)
  (h__law_mix : DefOk P w K mg base "_law_mix" 1 3 bY)
  (h__law_digits : DefOk P w K mg base "_law_digits" 1 3 eE)
  (b_range : mg "range" = none) : FnOk P w K mg base CX0 2 fa fd ["_law_script", "_law_most"] (spI K 2 gU) := by
 refine iU (k := 1) F uC 2 11 vI rfl rfl fun cdv A outer s H E B hr => ?_
 have nd := uC.nd
 refine aV ?_ ?_
 ·exact eZ 2 (bF h__law_cell hr (by decide) (aD (aA 0) (aD (aZ) (bC)))) nd
 refine aV ?_ ?_
 ·exact eZ 3 (jA (toP (aZ)) (toP (bF h__law_mix hr (by decide) (aD (aA 2) (aD (aZ) (aD (aA 1) (bC))))))) nd
 refine aV ?_ ?_
 ·exact eZ 4 (jA (toP (aZ)) (toP (bF h__law_mix hr (by decide) (aD (aA 2) (aD (aZ) (aD (aZ) (bC))))))) nd
 refine aV ?_ ?_
 ·exact aC7 5 [8] gK (.of rfl) (tX b_range (toP (aA 3))) (fun _ _ _ _ _ => cV 8 nd) (fun _ _ _ _ _ => fV [10] gK (.of rfl) (tX b_range (toP (aA 4))) (fun _ _ _ _ _ => cV 10 nd) (fun _ _ _ _ _ => bF h__law_mix hr (by decide) (aD (bF h__law_cell hr (by decide) (aD (aA 0) (aD (jA (toP (aZ)) (toP (aA 8))) (bC)))) (aD (aA 10) (aD (aA 3) (bC))))) rfl) rfl nd
 refine aV ?_ ?_
 ·exact eZ 6 (bF h__law_mix hr (by decide) (aD (aA 2) (aD (aZ) (aD (aZ) (bC))))) nd
 refine aV ?_ ?_
 ·exact mQ (dW (mV hr.units) mX (toP (aA 6)) (toP (aZ)) (cR _)) (cA (aC7 5 [8] gK (.of rfl) (tX b_range (toP (aA 3))) (fun _ _ _ _ _ => cV 8 nd) (fun _ _ _ _ _ => fV [10] gK (.of rfl) (tX b_range (toP (aA 4))) (fun _ _ _ _ _ => cV 10 nd) (fun _ _ _ _ _ => oE (toP (jA (toP (aA 8)) (toP (aA 10)))) (toP (aA 3))) rfl) rfl nd)) (gG)
 refine aV ?_ ?_
 ·exact mQ (dW aT0 aR4 (toP (aA 6)) (toP (aZ)) (cR _)) (cA (aC7 5 [8] gK (.of rfl) (tX b_range (toP (aA 3))) (fun _ _ _ _ _ => cV 8 nd) (fun _ _ _ _ _ => bF h__law_digits hr (by decide) (aD (bF h__law_cell hr (by decide) (aD (aA 0) (aD (jA (toP (aZ)) (toP (aA 8))) (bC)))) (aD (aA 3) (aD (aA 4) (bC))))) rfl nd)) (gG)
 refine aV ?_ ?_
 ·exact uW 7 (aGe (bC)) nd
 refine aV ?_ ?_
 ·exact tW (tX b_range (toP (aA 3))) (cV 8 nd) (aV (by exact eZ 9 (bF h__law_mix hr (by decide) (aD (bF h__law_cell hr (by decide) (aD (aA 0) (aD (jA (toP (aZ)) (toP (aA 8))) (bC)))) (aD (aZ) (aD (aZ) (bC))))) nd) (by exact aV (by exact mQ (dW (mV hr.units) mX (toP (bF h__law_mix hr (by decide) (aD (bF h__law_cell hr (by decide) (aD (aA 0) (aD (jA (toP (aZ)) (toP (aA 8))) (bC)))) (aD (aZ) (aD (aZ) (bC)))))) (toP (aZ)) (cR _)) (cA (eZ 9 (oE (toP (bF h__law_cell hr (by decide) (aD (aA 0) (aD (jA (toP (aZ)) (toP (aA 8))) (bC))))) (toP (aUn (toP (aZ)) (toP (aZ))))) nd)) (gG)) (by exact cA (aGl 7 (aA 9))))) PassesOwn.never rfl
 exact cA (aR8 [7] (dC (aKl (aD (aA 5) (aD (aA 7) (bC))))))
theorem aE1 {fa : Addr} {fd : FuncData} {dV : Value} (F : FunD K "ways_from" "ways_from" iD dV fa fd)
  (b_len : mg "len" = none)
  (b_zip : mg "zip" = none)
  {t_LETTERS : Tok} (g_LETTERS : mg "LETTERS" = some (.str "abc" t_LETTERS)) : FnOk P w K mg base CX0 1 fa fd ["steps", "start", "allowed"] (spI K 3 lQ) := by
 refine iU (k := 0) F uD 3 9 pG rfl rfl fun cdv A outer s H E B hr => ?_
 have nd := uD.nd
 refine aV ?_ ?_
 ·exact aNs 3 (aA 1) (nD []) nd
 refine aV ?_ ?_
 ·exact uW 4 (aGe (aD (aA 1) (bC))) nd
 refine aV ?_ ?_
 ·exact eZ 5 (aZ) nd
 refine aV ?_ ?_
 ·exact aGg 100000 (dW aIs aCb (toP (aA 5)) (toP (gH b_len (fQ 4))) (cR _)) (aV (by exact eZ 6 (fU hr.units (fQ 4) (toP (aA 5))) nd) (by exact aV (by exact tW (aRq b_zip (aEx [97, 98, 99] g_LETTERS) (fU hr.units (toP (aA 0)) (toP (aA 6)))) (aAt rfl (gM 7 (gM 8 (uX) nd) nd)) (cA (mQ (PW.pt (aUq (dW (aL0 hr.units) aL1 (toP (aA 8)) (toP (aA 2)) rfl) (aR6 (dW (uZ hr.units) vA (toP (aA 8)) (fQ 3) rfl)))) (aV (by exact aF4 hr.units 3 (aA 8) (jA (toP (fU hr.units (fQ 3) (toP (aA 6)))) (toP (aA 7)))) (by exact cA (aGl 4 (aA 8)))) (gG))) PassesOwn.never rfl) (by exact cA (eZ 5 (jA (toP (aA 5)) (toP (aZ))) nd)))) PassesOwn.never
 exact cA (aR8 [3] (dC (aA 3)))
theorem wI {fa : Addr} {fd : FuncData} {dV : Value} (F : FunD K "rooms_reached" "rooms_reached" dX dV fa fd)
  (h_ways_from : DefOk P w K mg base "ways_from" 1 3 lQ)
  {A_Machine : Addr} (c_Machine : ClsAt K "Machine" A_Machine)
  (na_Machine_many : cX K A_Machine (Str.ofString "many"))
  (na_Machine_steps : cX K A_Machine (Str.ofString "steps"))
  (b_list : mg "list" = none)
  (b_range : mg "range" = none) : FnOk P w K mg base CX0 2 fa fd ["machine"] (spF K 1 cM) := by
 refine aXn (k := 1) F nM 1 2 fW (e1 xT (aB 1)) rfl rfl fun cdv A outer s H E B hr => ?_
 have nd := nM.nd
 exact aNw (by exact eZ 1 (bF h_ways_from hr (by decide) (aD (nG c_Machine na_Machine_steps (toP (aA 0))) (aD (aZ) (aD (aLd b_list b_range rfl (toP (nG c_Machine na_Machine_many (toP (aA 0))))) (bC))))) nd) (by exact aRw (aNv b_list rfl (aA 1)))
theorem zO {fa : Addr} {fd : FuncData} {dV : Value} (F : FunD K "_law_behind" "_law_behind" fH dV fa fd)
     : FnOk P w K mg base CX0 1 fa fd ["_law_steps", "_law_room", "_law_text"] (spI K 3 jP) := by
 refine iU (k := 0) F pR 3 4 qR rfl rfl fun cdv A outer s H E B hr => ?_
 have nd := pR.nd
 refine aV ?_ ?_
 ·exact tW (mR (aA 2)) (cV 3 nd) (cA (eZ 1 (fU hr.units (toP (fU hr.units (toP (aA 0)) (toP (aA 1)))) (toP (aNg (toP (nD [97, 98, 99])) (aD (aA 3) (bC))))) nd)) PassesOwn.never rfl
 exact cA (dC (aA 1))
theorem aCc {fa : Addr} {fd : FuncData} {dV : Value} (F : FunD K "_law_ahead" "_law_ahead" fZ dV fa fd)
  (b_len : mg "len" = none) : FnOk P w K mg base CX0 1 fa fd ["_law_one", "_law_other"] (spI K 2 iK) := by
 refine iU (k := 0) F qY 2 2 sW rfl rfl fun cdv A outer s H E B hr => ?_
 have nd := qY.nd
 exact cA (dC (kI (aRs hr.units) aNu (toP (aDa (aD (gH b_len (toP (aA 0))) (aD (aA 0) (bC))))) (toP (aDa (aD (gH b_len (toP (aA 1))) (aD (aA 1) (bC))))) (cR _)))
theorem aCd {fa : Addr} {fd : FuncData} {dV : Value} (F : FunD K "_law_right" "_law_right" gB dV fa fd)
  (h__law_behind : DefOk P w K mg base "_law_behind" 1 3 jP)
  (h__law_ahead : DefOk P w K mg base "_law_ahead" 1 2 iK)
  (b_isinstance : mg "isinstance" = none)
  (b_list : mg "list" = none)
  (b_tuple : mg "tuple" = none)
  (b_range : mg "range" = none)
  (b_len : mg "len" = none) : FnOk P w K mg base CX0 2 fa fd ["_law_steps", "_law_found"] (spI K 2 fX) := by
 refine iU (k := 1) F qZ 2 9 sX rfl rfl fun cdv A outer s H E B hr => ?_
 have nd := qZ.nd
 refine aV ?_ ?_
 ·exact mQ (PW.pt (aD9 (nF (jG (jY ty_list b_isinstance b_list (toP (aA 1))))) (aD9 (dW (mV hr.units) mX (toP (aA 1)) (toP (aKl (bC))) (cR _)) (aAr (dW (mW hr.units) mY (toP (fU hr.units (toP (aA 1)) (toP (aZ)))) (toP (aDa (aD (aZ) (aD (nD []) (bC))))) (cR _)))))) (cA (dC (uV))) (gG)
 refine aV ?_ ?_
 ·exact mQ (dW (mW hr.units) mY (toP (aKs [8] gK (.of rfl) (mR (aA 1)) (fun _ _ _ _ _ => cV 8 nd) (fun _ _ _ _ _ => nF (jG (jY ty_tuple b_isinstance b_tuple (toP (aA 8))))) (fun _ _ _ _ _ => aA 8) rfl)) (toP (aKl (bC))) (cR _)) (cA (dC (uV))) (gG)
 refine aV ?_ ?_
 ·exact aGm 2 nd
 refine aV ?_ ?_
 ·exact eZ 3 (nD []) nd
 refine aV ?_ ?_
 ·exact tW (mR (aA 1)) (aAt rfl (gM 4 (gM 5 (uX) nd) nd)) (aV (by exact mQ (PW.pt (aD9 (dW (aL0 hr.units) aL1 (toP (aA 4)) (fQ 2) rfl) (aD9 (dW (mW hr.units) mY (toP (bF h__law_behind hr (by decide) (aD (aA 0) (aD (aZ) (aD (aA 5) (bC)))))) (toP (aA 4)) (cR _)) (aAr (nF (jG (bF h__law_ahead hr (by decide) (aD (aA 3) (aD (aA 5) (bC)))))))))) (cA (dC (uV))) (gG)) (by exact aV (by exact aF4 hr.units 2 (aA 4) (aA 5)) (by exact cA (eZ 3 (aA 5) nd)))) PassesOwn.never rfl
 refine aV ?_ ?_
 ·exact tW (mR (aA 1)) (aAt rfl (gM 4 (gM 5 (uX) nd) nd)) (cA (tW (tX b_range (toP (gH b_len (toP (fU hr.units (toP (aA 0)) (toP (aA 4))))))) (cV 6 nd) (aV (by exact eZ 7 (fU hr.units (toP (fU hr.units (toP (aA 0)) (toP (aA 4)))) (toP (aA 6))) nd) (by exact cA (mQ (PW.pt (aD9 (dW (uZ hr.units) vA (toP (aA 7)) (fQ 2) rfl) (aAr (nF (jG (bF h__law_ahead hr (by decide) (aD (fU hr.units (fQ 2) (toP (aA 7))) (aD (jA (toP (aA 5)) (toP (fU hr.units (toP (nD [97, 98, 99])) (toP (aA 6))))) (bC))))))))) (cA (dC (uV))) (gG)))) PassesOwn.never rfl)) PassesOwn.never rfl
 exact cA (dC (uV))
theorem vD {fa : Addr} {fd : FuncData} {dV : Value} (F : FunD K "is_filled_list" "is_filled_list" dJ dV fa fd)
  (b_isinstance : mg "isinstance" = none)
  (b_list : mg "list" = none)
  (b_len : mg "len" = none) : FnOk P w K mg base CX0 1 fa fd ["thing", "most"] (spI K 2 cY) := by
 refine iU (k := 0) F lX 2 2 jC rfl rfl fun cdv A outer s H E B hr => ?_
 have nd := lX.nd
 exact cA (dC (oF (jY ty_list b_isinstance b_list (toP (aA 0))) (oF (kI aIt aEz (toP (gH b_len (toP (aA 0)))) (toP (aZ)) (cR _)) (pO (kI aSz aR3 (toP (gH b_len (toP (aA 0)))) (toP (aA 1)) (cR _))))))
theorem aFd {fa : Addr} {fd : FuncData} {dV : Value} (F : FunD K "is_whole" "is_whole" jK dV fa fd)
  (b_isinstance : mg "isinstance" = none)
  (b_int : mg "int" = none)
  (b_bool : mg "bool" = none) : FnOk P w K mg base CX0 1 fa fd ["thing"] (spI K 1 gQ) := by
 refine iU (k := 0) F vY 1 1 rE rfl rfl fun cdv A outer s H E B hr => ?_
 have nd := vY.nd
 exact cA (dC (oF (jY ty_int b_isinstance b_int (toP (aA 0))) (pO (aUp (jY ty_bool b_isinstance b_bool (toP (aA 0)))))))
theorem aFe {fa : Addr} {fd : FuncData} {dV : Value} (F : FunD K "is_below" "is_below" jL dV fa fd)
  (h_is_whole : DefOk P w K mg base "is_whole" 1 1 gQ) : FnOk P w K mg base CX0 2 fa fd ["thing", "limit"] (spI K 2 fM) := by
 refine iU (k := 1) F vZ 2 2 rF rfl rfl fun cdv A outer s H E B hr => ?_
 have nd := vZ.nd
 exact cA (dC (oF (bF h_is_whole hr (by decide) (aD (aA 0) (bC))) (oF (kI aIt aEz (toP (aA 0)) (toP (aZ)) (cR _)) (pO (kI aIs aCb (toP (aA 0)) (toP (aA 1)) (cR _))))))
theorem aLi {fa : Addr} {fd : FuncData} {dV : Value} (F : FunD K "is_row" "is_row" nJ dV fa fd)
  (h_is_below : DefOk P w K mg base "is_below" 2 2 fM)
  (b_len : mg "len" = none)
  (b_all : mg "all" = none) : FnOk P w K mg base CX0 3 fa fd ["thing", "letters", "rooms"] (spI K 3 sY) := by
 refine iU (k := 2) F aB1 3 4 xU rfl rfl fun cdv A outer s H E B hr => ?_
 have nd := aB1.nd
 exact cA (dC (oF (kI (mV hr.units) mX (toP (gH b_len (toP (aA 0)))) (toP (aA 1)) (cR _)) (pO (aGq b_all rfl (toP (fV [3] gK (.of rfl) (mR (aA 0)) (fun _ _ _ _ _ => cV 3 nd) (fun _ _ _ _ _ => bF h_is_below hr (by decide) (aD (aA 3) (aD (aA 2) (bC)))) rfl))))))
theorem aE2 {fa : Addr} {fd : FuncData} {dV : Value} (F : FunD K "are_steps" "are_steps" iG dV fa fd)
  (h_is_filled_list : DefOk P w K mg base "is_filled_list" 1 2 cY)
  (h_is_row : DefOk P w K mg base "is_row" 3 3 sY)
  (b_all : mg "all" = none)
  (b_len : mg "len" = none)
  {t_MOST_ROOMS : Tok} (g_MOST_ROOMS : mg "MOST_ROOMS" = some (.int 8 t_MOST_ROOMS))
  {t_MOST_LETTERS : Tok} (g_MOST_LETTERS : mg "MOST_LETTERS" = some (.int 3 t_MOST_LETTERS)) : FnOk P w K mg base CX0 4 fa fd ["thing"] (spI K 1 lR) := by
 refine iU (k := 3) F uE 1 2 pH rfl rfl fun cdv A outer s H E B hr => ?_
 have nd := uE.nd
 refine aV ?_ ?_
 ·exact mQ (nF (jG (bF h_is_filled_list hr (by decide) (aD (aA 0) (aD (aKi g_MOST_ROOMS) (bC)))))) (cA (dC (uV))) (gG)
 refine aV ?_ ?_
 ·exact mQ (nF (jG (aGq b_all rfl (toP (fV [1] gK (.of rfl) (mR (aA 0)) (fun _ _ _ _ _ => cV 1 nd) (fun _ _ _ _ _ => bF h_is_filled_list hr (by decide) (aD (aA 1) (aD (aKi g_MOST_LETTERS) (bC)))) rfl))))) (cA (dC (uV))) (gG)
 exact cA (dC (aGq b_all rfl (toP (fV [1] gK (.of rfl) (mR (aA 0)) (fun _ _ _ _ _ => cV 1 nd) (fun _ _ _ _ _ => bF h_is_row hr (by decide) (aD (aA 1) (aD (gH b_len (toP (fU hr.units (toP (aA 0)) (toP (aZ))))) (aD (gH b_len (toP (aA 0))) (bC))))) rfl))))
theorem aE3 {fa : Addr} {fd : FuncData} {dV : Value} (F : FunD K "are_ranks" "are_ranks" iH dV fa fd)
  (h_is_whole : DefOk P w K mg base "is_whole" 1 1 gQ)
  (b_isinstance : mg "isinstance" = none)
  (b_list : mg "list" = none)
  (b_len : mg "len" = none)
  (b_all : mg "all" = none) : FnOk P w K mg base CX0 2 fa fd ["thing", "rooms"] (spI K 2 lU) := by
 refine iU (k := 1) F uF 2 3 pI rfl rfl fun cdv A outer s H E B hr => ?_
 have nd := uF.nd
 refine aV ?_ ?_
 ·exact mQ (PW.pt (aD9 (nF (jG (jY ty_list b_isinstance b_list (toP (aA 0))))) (aAr (dW (mW hr.units) mY (toP (gH b_len (toP (aA 0)))) (toP (aA 1)) (cR _))))) (cA (dC (uV))) (gG)
 exact cA (dC (aGq b_all rfl (toP (fV [2] gK (.of rfl) (mR (aA 0)) (fun _ _ _ _ _ => cV 2 nd) (fun _ _ _ _ _ => oF (bF h_is_whole hr (by decide) (aD (aA 2) (bC))) (pO (kI aIt aEz (toP (aA 2)) (toP (aZ)) (cR _)))) rfl))))
theorem rT {fa : Addr} {fd : FuncData} (F : Fun K "__init__" "Machine.__init__" dB fa fd)
  (h_are_steps : DefOk P w K mg base "are_steps" 4 1 lR)
  (h_are_ranks : DefOk P w K mg base "are_ranks" 2 2 lU)
  {A_Machine : Addr} (c_Machine : ClsAt K "Machine" A_Machine)
  (na_Machine_steps : cX K A_Machine (Str.ofString "steps"))
  (na_Machine_ranks : cX K A_Machine (Str.ofString "ranks"))
  (na_Machine_many : cX K A_Machine (Str.ofString "many"))
  (na_Machine_letters : cX K A_Machine (Str.ofString "letters"))
  (b_len : mg "len" = none)
  (b_list : mg "list" = none) : FnOk P w K mg base CX0 5 fa fd ["self", "steps", "ranks"] (spM K "Machine" 2 cZ) := by
 refine aNj (k := 4) F kJ "Machine" 2 4 dN rfl rfl fun cdv A outer s H E B hr => ?_
 have nd := kJ.nd
 refine aV ?_ ?_
 ·exact mQ (nF (jG (bF h_are_steps hr (by decide) (aD (aA 1) (bC))))) (cA (aGn)) (gG)
 refine aV ?_ ?_
 ·exact mQ (nF (jG (bF h_are_ranks hr (by decide) (aD (aA 2) (aD (gH b_len (toP (aA 1))) (bC)))))) (cA (aGn)) (gG)
 refine aV ?_ ?_
 ·exact aC6 0 c_Machine na_Machine_steps (fV [3] gK (.of rfl) (mR (aA 1)) (fun _ _ _ _ _ => cV 3 nd) (fun _ _ _ _ _ => aC8 b_list (toP (aA 3))) rfl)
 refine aV ?_ ?_
 ·exact aC6 0 c_Machine na_Machine_ranks (aC8 b_list (toP (aA 2)))
 refine aV ?_ ?_
 ·exact aC6 0 c_Machine na_Machine_many (gH b_len (toP (aA 1)))
 exact cA (aC6 0 c_Machine na_Machine_letters (gH b_len (toP (fU hr.units (toP (aA 1)) (toP (aZ))))))
theorem aIg {fa : Addr} {fd : FuncData} {dV : Value} (F : FunD K "trimmed" "trimmed" lA dV fa fd)
  (h_rooms_reached : DefOkF P w K mg base "rooms_reached" 2 1 cM)
  (k_Machine : MakeOk P w K mg base "Machine" 5 2 cZ)
  {A_Machine : Addr} (c_Machine : ClsAt K "Machine" A_Machine)
  (na_Machine_steps : cX K A_Machine (Str.ofString "steps"))
  (na_Machine_ranks : cX K A_Machine (Str.ofString "ranks")) : FnOk P w K mg base CX0 7 fa fd ["machine"] (spI K 1 pX) := by
 refine iU (k := 6) F zB 1 6 aA8 rfl rfl fun cdv A outer s H E B hr => ?_
 have nd := zB.nd
 refine aV ?_ ?_
 ·exact eZ 1 (fV [3, 4] aP0 (.of rfl) (mR (bF (DefOkF.plain h_rooms_reached) hr (by decide) (aD (aA 0) (bC)))) (fun _ _ _ _ _ => aAt rfl (gM 3 (gM 4 (uX) nd) nd)) (fun _ _ _ _ _ => aA 3) rfl) nd
 refine aV ?_ ?_
 ·exact aC7 2 [3] gK (.of rfl) (mR (aA 1)) (fun _ _ _ _ _ => cV 3 nd) (fun _ _ _ _ _ => fV [5] gK (.of rfl) (mR (fU hr.units (toP (nG c_Machine na_Machine_steps (toP (aA 0)))) (toP (aA 3)))) (fun _ _ _ _ _ => cV 5 nd) (fun _ _ _ _ _ => aDx (toP (aA 1)) (aD (aA 5) (bC))) rfl) rfl nd
 exact cA (dC (aL2 k_Machine hr (by decide) (aD (aA 2) (aD (fV [3] gK (.of rfl) (mR (aA 1)) (fun _ _ _ _ _ => cV 3 nd) (fun _ _ _ _ _ => fU hr.units (toP (nG c_Machine na_Machine_ranks (toP (aA 0)))) (toP (aA 3))) rfl) (bC)))))
theorem aE4 {fa : Addr} {fd : FuncData} {dV : Value} (F : FunD K "_law_word" "_law_word" iI dV fa fd)
  (h__law_digits : DefOk P w K mg base "_law_digits" 1 3 eE)
  (h__law_mix : DefOk P w K mg base "_law_mix" 1 3 bY)
  (b_range : mg "range" = none) : FnOk P w K mg base CX0 2 fa fd ["_law_cell_here", "_law_size", "_law_count"] (spI K 3 gW) := by
 refine iU (k := 1) F uG 3 5 vM rfl rfl fun cdv A outer s H E B hr => ?_
 have nd := uG.nd
 refine aV ?_ ?_
 ·exact mQ (dW (mV hr.units) mX (toP (oE (toP (aA 0)) (toP (aZ)))) (toP (aZ)) (cR _)) (cA (dC (aL4 (toP (nD [])) (aD (fV [4] gK (.of rfl) (mR (bF h__law_digits hr (by decide) (aD (aKj (toP (aA 0)) (toP (aZ))) (aD (aA 2) (aD (aA 1) (bC)))))) (fun _ _ _ _ _ => cV 4 nd) (fun _ _ _ _ _ => fU hr.units (toP (nD [97, 98, 99])) (toP (aA 4))) rfl) (bC))))) (gG)
 exact cA (dC (aL4 (toP (nD [])) (aD (fV [3] gK (.of rfl) (tX b_range (toP (aA 1))) (fun _ _ _ _ _ => cV 3 nd) (fun _ _ _ _ _ => fU hr.units (toP (nD [97, 98, 99])) (toP (bF h__law_mix hr (by decide) (aD (aA 0) (aD (jA (toP (aZ)) (toP (aA 3))) (aD (aA 2) (bC))))))) rfl) (bC))))
theorem aIh {fa : Addr} {fd : FuncData} {dV : Value} (F : FunD K "is_word" "is_word" lB dV fa fd)
  (b_isinstance : mg "isinstance" = none)
  (b_str : mg "str" = none)
  {t_LETTERS : Tok} (g_LETTERS : mg "LETTERS" = some (.str "abc" t_LETTERS)) : FnOk P w K mg base CX0 1 fa fd ["thing", "many"] (spI K 2 gY) := by
 refine iU (k := 0) F zE 2 2 uQ rfl rfl fun cdv A outer s H E B hr => ?_
 have nd := zE.nd
 exact cA (dC (oF (jY ty_str b_isinstance b_str (toP (aA 0))) (pO (kI (mV hr.units) mX (toP (aNh (toP (aA 0)) (aD (aRg (toP (aEx [97, 98, 99] g_LETTERS)) (aF0) (yK (toP (aA 1)))) (bC)))) (toP (nD [])) (cR _)))))
theorem aCe {fa : Addr} {fd : FuncData} {dV : Value} (F : FunD K "is_endless" "is_endless" gC dV fa fd)
  (h_is_word : DefOk P w K mg base "is_word" 1 2 gY)
  (b_isinstance : mg "isinstance" = none)
  (b_tuple : mg "tuple" = none)
  (b_len : mg "len" = none) : FnOk P w K mg base CX0 2 fa fd ["thing", "many"] (spI K 2 fB) := by
 refine iU (k := 1) F rA 2 2 nP rfl rfl fun cdv A outer s H E B hr => ?_
 have nd := rA.nd
 refine aV ?_ ?_
 ·exact mQ (PW.pt (aD9 (nF (jG (jY ty_tuple b_isinstance b_tuple (toP (aA 0))))) (aAr (dW (mW hr.units) mY (toP (gH b_len (toP (aA 0)))) (toP (aZ)) (cR _))))) (cA (dC (uV))) (gG)
 exact cA (dC (oF (bF h_is_word hr (by decide) (aD (fU hr.units (toP (aA 0)) (toP (aZ))) (aD (aA 1) (bC)))) (oF (bF h_is_word hr (by decide) (aD (fU hr.units (toP (aA 0)) (toP (aZ))) (aD (aA 1) (bC)))) (pO (kI (mW hr.units) mY (toP (fU hr.units (toP (aA 0)) (toP (aZ)))) (toP (nD [])) (cR _))))))
theorem pU {fa : Addr} {fd : FuncData} {dV : Value} (F : FunD K "check_room" "Machine.check_room" cP dV fa fd)
  (h_is_below : DefOk P w K mg base "is_below" 2 2 fM)
  {A_Machine : Addr} (c_Machine : ClsAt K "Machine" A_Machine)
  (na_Machine_many : cX K A_Machine (Str.ofString "many"))
  {X_NoRoom : Addr} {bm_NoRoom : List Value} (e_NoRoom : ExcAt K "NoRoom" X_NoRoom bm_NoRoom)
  (ge_NoRoom : mg (Str.ofString "NoRoom") = some (.ref X_NoRoom)) : FnOk P w K mg base (CX1 P w) 3 fa fd ["self", "thing"] (spE K 2 cN) := by
 refine aRm (k := 2) (sm := false) F jB 2 2 jW rfl rfl fun cdv A outer s H E B W hr hL => ?_
 have nd := jB.nd
 exact aDt (aAx (aV0 (s1 := false) (nF (jG (bF h_is_below hr (by decide) (aD (aA 1) (aD (nG c_Machine na_Machine_many (toP (aA 0))) (bC)))))) (aDt (aAx (x_raise hL e_NoRoom ge_NoRoom rfl (aD (nD [116, 104, 105, 115, 32, 105, 115, 32, 110, 111, 32, 114, 111, 111, 109, 32, 111, 102, 32, 116, 104, 101, 32, 109, 97, 99, 104, 105, 110, 101]) (bC))))) (aP2)))
theorem oO {fa : Addr} {fd : FuncData} {dV : Value} (F : FunD K "rooms_along" "Machine.rooms_along" cJ dV fa fd)
  {A_Machine : Addr} (c_Machine : ClsAt K "Machine" A_Machine)
  (na_Machine_steps : cX K A_Machine (Str.ofString "steps"))
  {t_LETTERS : Tok} (g_LETTERS : mg "LETTERS" = some (.str "abc" t_LETTERS)) : FnOk P w K mg base CX0 1 fa fd ["self", "room", "text"] (spF K 3 bH) := by
 refine aXl (k := 0) F iV 3 5 3 cT rfl rfl fun cdv A outer s H E B hr => ?_
 have nd := iV.nd
 exact aGv (by exact uW 3 (aGe (aD (aA 1) (bC))) nd) (by exact aGv (by exact tW (mR (aA 2)) (cV 4 nd) (aV (by exact eZ 1 (fU hr.units (toP (fU hr.units (toP (nG c_Machine na_Machine_steps (toP (aA 0)))) (toP (aA 1)))) (toP (aRi (toP (aEx [97, 98, 99] g_LETTERS)) (aD (aA 4) (bC))))) nd) (by exact cA (aGl 3 (aA 1)))) PassesOwn.never rfl) (by exact aRn))
theorem zF {fa : Addr} {fd : FuncData} {dV : Value} (F : FunD K "walk" "Machine.walk" eV dV fa fd)
  (h_is_endless : DefOk P w K mg base "is_endless" 2 2 fB)
  (m_Machine_check_room_0 : MethOkX P w K mg base "Machine" "check_room" 3 2 [] cN)
  (m_Machine_rooms_along_0 : MethOkF P w K mg base "Machine" "rooms_along" 1 3 [] bH)
  {A_Machine : Addr} (c_Machine : ClsAt K "Machine" A_Machine)
  (na_Machine_letters : cX K A_Machine (Str.ofString "letters"))
  {X_NoWord : Addr} {bm_NoWord : List Value} (e_NoWord : ExcAt K "NoWord" X_NoWord bm_NoWord)
  (ge_NoWord : mg (Str.ofString "NoWord") = some (.ref X_NoWord))
  (b_len : mg "len" = none) : FnOk P w K mg base (CX1 P w) 4 fa fd ["self", "word", "room"] (spE K 3 fP) := by
 refine aRm (k := 3) (sm := false) F oG 3 6 pJ rfl rfl fun cdv A outer s H E B W hr hL => ?_
 have nd := oG.nd
 refine rR (s1 := false) (s2 := false) ?_ ?_
 ·exact aAx (aV1 (aGu (pl := _) m_Machine_check_room_0 hL hr (by decide) (aA 0) (aD (aA 2) (bC))))
 refine rR (s1 := false) (s2 := false) ?_ ?_
 ·exact aAx (aV0 (s1 := false) (nF (jG (bF h_is_endless hr (by decide) (aD (aA 1) (aD (nG c_Machine na_Machine_letters (toP (aA 0))) (bC)))))) (aDt (aAx (x_raise hL e_NoWord ge_NoWord rfl (aD (nD [116, 104, 105, 115, 32, 105, 115, 32, 110, 111, 32, 101, 110, 100, 108, 101, 115, 115, 32, 119, 111, 114, 100, 32, 111, 102, 32, 116, 104, 101, 32, 109, 97, 99, 104, 105, 110, 101, 39, 115, 32, 108, 101, 116, 116, 101, 114, 115]) (bC))))) (aP2))
 refine rR (s1 := false) (s2 := false) ?_ ?_
 ·exact vC (s1 := false) (uW 3 (aRo (pl := _) m_Machine_rooms_along_0 hr (by decide) (aA 0) (aD (aA 2) (aD (fU hr.units (toP (aA 1)) (toP (aZ))) (bC)))) nd)
 refine rR (s1 := false) (s2 := false) ?_ ?_
 ·exact vC (s1 := false) (aGm 4 nd)
 refine rR (s1 := false) (s2 := false) ?_ ?_
 ·exact vC (s1 := false) (aGg 100000 (dW (uZ hr.units) vA (toP (fU hr.units (fQ 3) (toP (aDk (toP (aZ)))))) (fQ 4) rfl) (aV (by exact aF4 hr.units 4 (fU hr.units (fQ 3) (toP (aDk (toP (aZ))))) (aUm (toP (gH b_len (fQ 3))) (toP (aZ)))) (by exact cA (aUy 3 (aXj (toP (aF5 (pl := _) (MethOkF.plain m_Machine_rooms_along_0) hr (by decide) (aA 0) (aD (fU hr.units (fQ 3) (toP (aDk (toP (aZ))))) (aD (fU hr.units (toP (aA 1)) (toP (aZ))) (bC))))) (yK (toP (aZ))) (aF0))))) PassesOwn.leaving)
 refine rR (s1 := false) (s2 := false) ?_ ?_
 ·exact vC (s1 := false) (eZ 5 (fU hr.units (fQ 4) (toP (fU hr.units (fQ 3) (toP (aDk (toP (aZ))))))) nd)
 exact aDt (vC (s1 := false) (dC (aDa (aD (aRg (fQ 3) (aF0) (yK (toP (aA 5)))) (aD (aRg (fQ 3) (yK (toP (aA 5))) (yK (toP (aDk (toP (aZ)))))) (bC))))))
theorem zG {fa : Addr} {fd : FuncData} {dV : Value} (F : FunD K "lets" "Machine.lets" eX dV fa fd)
  (m_Machine_walk_0 : MethOkX P w K mg base "Machine" "walk" 4 3 [] fP)
  {A_Machine : Addr} (c_Machine : ClsAt K "Machine" A_Machine)
  (na_Machine_ranks : cX K A_Machine (Str.ofString "ranks"))
  (b_max : mg "max" = none) : FnOk P w K mg base (CX1 P w) 5 fa fd ["self", "word", "room"] (spE K 3 cG) := by
 refine aRm (k := 4) (sm := false) F oH 3 5 pK rfl rfl fun cdv A outer s H E B W hr hL => ?_
 have nd := oH.nd
 refine rR (s1 := false) (s2 := false) ?_ ?_
 ·exact aAx (aV2 3 (aV3 hr.units (aGu (pl := _) m_Machine_walk_0 hL hr (by decide) (aA 0) (aD (aA 1) (aD (aA 2) (bC)))) (toP (aZ))) nd)
 exact aDt (vC (s1 := false) (dC (kI (mV hr.units) mX (toP (oE (toP (aUz b_max rfl (toP (fV [4] gK (.of rfl) (mR (aA 3)) (fun _ _ _ _ _ => cV 4 nd) (fun _ _ _ _ _ => fU hr.units (toP (nG c_Machine na_Machine_ranks (toP (aA 0)))) (toP (aA 4))) rfl)))) (toP (aZ)))) (toP (aZ)) (cR _))))
theorem aV7 {fa : Addr} {fd : FuncData} {dV : Value} (F : FunD K "law" "law" uA dV fa fd)
  (h__law_made : DefOk P w K mg base "_law_made" 2 2 gU)
  (h_rooms_reached : DefOkF P w K mg base "rooms_reached" 2 1 cM)
  (h__law_right : DefOk P w K mg base "_law_right" 2 2 fX)
  (h_trimmed : DefOk P w K mg base "trimmed" 7 1 pX)
  (h__law_cell : DefOk P w K mg base "_law_cell" 1 2 bM)
  (h__law_word : DefOk P w K mg base "_law_word" 2 3 gW)
  (h__law_mix : DefOk P w K mg base "_law_mix" 1 3 bY)
  (m_Machine_lets_1 : MethOkX P w K mg base "Machine" "lets" 5 3 [.int 0] cG)
  (k_Machine : MakeOk P w K mg base "Machine" 5 2 cZ)
  {A_Machine : Addr} (c_Machine : ClsAt K "Machine" A_Machine)
  (na_Machine_steps : cX K A_Machine (Str.ofString "steps"))
  (na_Machine_ranks : cX K A_Machine (Str.ofString "ranks"))
  (na_Machine_many : cX K A_Machine (Str.ofString "many"))
  (b_len : mg "len" = none)
  (b_list : mg "list" = none)
  (b_range : mg "range" = none)
  (b_max : mg "max" = none)
  (b_min : mg "min" = none) : FnOk P w K mg base CX0 8 fa fd ["_law_script"] (spI K 1 aA9) := by
 refine iU (k := 7) F aLh 1 16 aOw rfl rfl fun cdv A outer s H E B hr => ?_
 have nd := aLh.nd
 refine aV ?_ ?_
 ·exact aUs (bF h__law_made hr (by decide) (aD (aA 0) (aD (aZ) (bC)))) (aAt rfl (gM 7 (gM 8 (uX) nd) nd))
 refine aV ?_ ?_
 ·exact eZ 1 (gH b_len (toP (fU hr.units (toP (aA 7)) (toP (aZ))))) nd
 refine aV ?_ ?_
 ·exact eZ 2 (aL2 k_Machine hr (by decide) (aD (fV [12] gK (.of rfl) (mR (aA 7)) (fun _ _ _ _ _ => cV 12 nd) (fun _ _ _ _ _ => aC8 b_list (toP (aA 12))) rfl) (aD (aC8 b_list (toP (aA 8))) (bC)))) nd
 refine aV ?_ ?_
 ·exact uW 3 (aNx h_rooms_reached hr (by decide) (aD (aA 2) (bC))) nd
 refine aV ?_ ?_
 ·exact mQ (nF (jG (aNo h__law_right hr (by decide) (aL9 (toP (aA 7)) (aL9 (fQ 3) (aV4)))))) (cA (dC (uV))) (gG)
 refine aV ?_ ?_
 ·exact aRx 4 [3] (aRv [13, 14] aP0 (.of rfl) (mR (aA 3)) (fun _ _ _ _ _ => aAt rfl (gM 13 (gM 14 (uX) nd) nd)) (fun _ _ _ _ _ => aA 13) rfl) nd
 refine aV ?_ ?_
 ·exact aV5 3
 refine aV ?_ ?_
 ·exact eZ 5 (bF h_trimmed hr (by decide) (aD (aA 2) (bC))) nd
 refine aV ?_ ?_
 ·exact mQ (dW (mW hr.units) mY (toP (nG c_Machine na_Machine_steps (toP (aA 5)))) (toP (fV [13] gK (.of rfl) (mR (aA 4)) (fun _ _ _ _ _ => cV 13 nd) (fun _ _ _ _ _ => fV [15] gK (.of rfl) (mR (fU hr.units (toP (aA 7)) (toP (aA 13)))) (fun _ _ _ _ _ => cV 15 nd) (fun _ _ _ _ _ => aDx (toP (aA 4)) (aD (aA 15) (bC))) rfl) rfl)) (cR _)) (cA (dC (uV))) (gG)
 refine aV ?_ ?_
 ·exact mQ (PW.pt (aD9 (dW (mW hr.units) mY (toP (nG c_Machine na_Machine_ranks (toP (aA 5)))) (toP (fV [13] gK (.of rfl) (mR (aA 4)) (fun _ _ _ _ _ => cV 13 nd) (fun _ _ _ _ _ => fU hr.units (toP (aA 8)) (toP (aA 13))) rfl)) (cR _)) (aAr (dW (mW hr.units) mY (toP (nG c_Machine na_Machine_many (toP (aA 5)))) (toP (gH b_len (toP (aA 4)))) (cR _))))) (cA (dC (uV))) (gG)
 refine aV ?_ ?_
 ·exact tW (aUt b_range (toP (aZ)) (toP (aRj b_max rfl (toP (aZ)) (toP (aRk b_min rfl (toP (aZ)) (toP (gH b_len (toP (aA 0))))))))) (cV 6 nd) (aV (by exact eZ 9 (bF h__law_cell hr (by decide) (aD (aA 0) (aD (aA 6) (bC)))) nd) (by exact aV (by exact eZ 10 (bF h__law_word hr (by decide) (aD (bF h__law_cell hr (by decide) (aD (aA 0) (aD (jA (toP (aA 6)) (toP (aZ))) (bC)))) (aD (jA (toP (aZ)) (toP (bF h__law_mix hr (by decide) (aD (aA 9) (aD (aZ) (aD (aZ) (bC))))))) (aD (aA 1) (bC))))) nd) (by exact aV (by exact eZ 11 (aDa (aD (bF h__law_word hr (by decide) (aD (aA 9) (aD (bF h__law_mix hr (by decide) (aD (aA 9) (aD (aZ) (aD (aZ) (bC))))) (aD (aA 1) (bC))))) (aD (aA 10) (bC)))) nd) (by exact cA (mQ (dW (mW hr.units) mY (toP (aF5 (pl := _) (MethOkX.calm m_Machine_lets_1) hr (by decide) (aA 5) (aD (aA 11) (bC)))) (toP (aF5 (pl := _) (MethOkX.calm m_Machine_lets_1) hr (by decide) (aA 2) (aD (aA 11) (bC)))) (cR _)) (cA (dC (uV))) (gG)))))) PassesOwn.never rfl
 exact cA (dC (oF (bF h__law_right hr (by decide) (aD (aA 7) (aD (bF (DefOkF.plain h_rooms_reached) hr (by decide) (aD (aA 2) (bC))) (bC)))) (oF (kI (mV hr.units) mX (toP (nG c_Machine na_Machine_steps (toP (aA 2)))) (toP (aA 7)) (cR _)) (pO (kI (mV hr.units) mX (toP (nG c_Machine na_Machine_ranks (toP (aA 2)))) (toP (aA 8)) (cR _))))))
end
theorem all_mk {l : PySem.W.OpenLaw} {w : World} {K : PySem.W.Frag} {h : Heap} {mg : Str -> Option Value} {fa : Addr} {BE newE initE : String} {bmE : List Value} (FE : ExcBaseFacts BE newE initE bmE) (X : K.In h) (G : h.Ns mainGlobals mg) (hfa : mg "law" = some (.ref fa))
  {A_Machine : Addr} {X_NoMachine : Addr} {X_NoRoom : Addr} {X_NoWord : Addr} {f1 : Addr} {od1 an1 : Option Addr} {sl1 : Array (Option Value)} {oc1 kV1 dc1 pm1 cd1 ct1 : Value} {f2 : Addr} {od2 an2 : Option Addr} {sl2 : Array (Option Value)} {oc2 kV2 dc2 pm2 cd2 ct2 : Value} {f3 : Addr} {od3 an3 : Option Addr} {sl3 : Array (Option Value)} {oc3 kV3 dc3 pm3 cd3 ct3 : Value} {f4 : Addr} {od4 an4 : Option Addr} {sl4 : Array (Option Value)} {oc4 kV4 dc4 pm4 cd4 ct4 : Value} {f5 : Addr} {od5 an5 : Option Addr} {sl5 : Array (Option Value)} {oc5 kV5 dc5 pm5 cd5 ct5 : Value} {f6 : Addr} {od6 an6 : Option Addr} {sl6 : Array (Option Value)} {oc6 kV6 dc6 pm6 cd6 ct6 : Value} {f7 : Addr} {od7 an7 : Option Addr} {sl7 : Array (Option Value)} {oc7 kV7 dc7 pm7 cd7 ct7 : Value} {f8 : Addr} {od8 an8 : Option Addr} {sl8 : Array (Option Value)} {oc8 kV8 dc8 pm8 cd8 ct8 : Value} {f9 : Addr} {od9 an9 : Option Addr} {sl9 : Array (Option Value)} {oc9 kV9 dc9 pm9 cd9 ct9 : Value} {f10 : Addr} {od10 an10 : Option Addr} {sl10 : Array (Option Value)} {oc10 kV10 dc10 pm10 cd10 ct10 : Value} {f11 : Addr} {od11 an11 : Option Addr} {sl11 : Array (Option Value)} {oc11 kV11 dc11 pm11 cd11 ct11 : Value} {f12 : Addr} {od12 an12 : Option Addr} {sl12 : Array (Option Value)} {oc12 kV12 dc12 pm12 cd12 ct12 : Value} {f13 : Addr} {od13 an13 : Option Addr} {sl13 : Array (Option Value)} {oc13 kV13 dc13 pm13 cd13 ct13 : Value} {f14 : Addr} {od14 an14 : Option Addr} {sl14 : Array (Option Value)} {oc14 kV14 dc14 pm14 cd14 ct14 : Value} {f15 : Addr} {od15 an15 : Option Addr} {sl15 : Array (Option Value)} {oc15 kV15 dc15 pm15 cd15 ct15 : Value} {f16 : Addr} {od16 an16 : Option Addr} {sl16 : Array (Option Value)} {oc16 kV16 dc16 pm16 cd16 ct16 : Value} {f17 : Addr} {od17 an17 : Option Addr} {sl17 : Array (Option Value)} {oc17 kV17 dc17 pm17 cd17 ct17 : Value} {f18 : Addr} {od18 an18 : Option Addr} {sl18 : Array (Option Value)} {oc18 kV18 dc18 pm18 cd18 ct18 : Value} {f19 : Addr} {od19 an19 : Option Addr} {sl19 : Array (Option Value)} {oc19 kV19 dc19 pm19 cd19 ct19 : Value} {f20 : Addr} {od20 an20 : Option Addr} {sl20 : Array (Option Value)} {oc20 kV20 dc20 pm20 cd20 ct20 : Value} {f21 : Addr} {od21 an21 : Option Addr} {sl21 : Array (Option Value)} {oc21 kV21 dc21 pm21 cd21 ct21 : Value} {f22 : Addr} {od22 an22 : Option Addr} {sl22 : Array (Option Value)} {oc22 kV22 dc22 pm22 cd22 ct22 : Value} {f23 : Addr} {od23 an23 : Option Addr} {sl23 : Array (Option Value)} {oc23 kV23 dc23 pm23 cd23 ct23 : Value} {T23 : Addr} {toc23 : Value} {tod23 : Option Addr} {tsl23 : Array (Option Value)} {tn23 : Nat} {tk23_0 : Tok} {f24 : Addr} {od24 an24 : Option Addr} {sl24 : Array (Option Value)} {oc24 kV24 dc24 pm24 cd24 ct24 : Value} {T24 : Addr} {toc24 : Value} {tod24 : Option Addr} {tsl24 : Array (Option Value)} {tn24 : Nat} {tk24_0 : Tok} {f25 : Addr} {od25 an25 : Option Addr} {sl25 : Array (Option Value)} {oc25 kV25 dc25 pm25 cd25 ct25 : Value} {t_LETTERS : Tok} {t_MOST_LETTERS : Tok} {t_MOST_ROOMS : Tok}
  (x_Machine : PySem.W.nsIn K mainGlobals (Str.ofString "Machine") = some (some (.ref A_Machine)))
  (x1_Machine : PySem.W.plainGet K A_Machine Str.empty = true)
  (x2_Machine : PySem.W.hasDictIn K A_Machine = true)
  (x3_Machine : PySem.W.plainOver K A_Machine = true)
  (x4_Machine : PySem.W.findIn K (.ref A_Machine) "__setattr__" = some (some (.builtin "object.__setattr__")))
  (x5_Machine : PySem.W.makesIn K A_Machine = true)
  (x6_Machine : PySem.W.keepIn K (.ref A_Machine) = true)
  (w_Machine_letters : PySem.W.findIn K (.ref A_Machine) (Str.ofString "letters") = some none)
  (w_Machine_many : PySem.W.findIn K (.ref A_Machine) (Str.ofString "many") = some none)
  (w_Machine_ranks : PySem.W.findIn K (.ref A_Machine) (Str.ofString "ranks") = some none)
  (w_Machine_steps : PySem.W.findIn K (.ref A_Machine) (Str.ofString "steps") = some none)
  (y3 : PySem.W.specialIn K (.builtin "object.__class__") "__get__" = some (some (.builtin "getset_descriptor.__get__")))
  (y4 : PySem.W.takesIn K (.builtin "object.__class__") = some true)
  (y_NoMachine : PySem.W.nsIn K mainGlobals (Str.ofString "NoMachine") = some (some (.ref X_NoMachine)))
  (y0_NoMachine : PySem.W.excIn K X_NoMachine bmE newE = true)
  (y1_NoMachine : PySem.W.findIn K (.ref X_NoMachine) "__getattribute__" = some (some (.builtin "BaseException.__getattribute__")))
  (y6_NoMachine : PySem.W.findIn K (.ref X_NoMachine) "__getattr__" = some none)
  (y7_NoMachine : PySem.W.mroIn K X_NoMachine (.type "BaseException") = some true)
  (y2_NoMachine : PySem.W.findIn K (.ref X_NoMachine) "__class__" = some (some (.builtin "object.__class__")))
  (y5_NoMachine : PySem.W.mroIn K X_NoMachine (.type "object") = some true)
  (y_NoRoom : PySem.W.nsIn K mainGlobals (Str.ofString "NoRoom") = some (some (.ref X_NoRoom)))
  (y0_NoRoom : PySem.W.excIn K X_NoRoom bmE newE = true)
  (y1_NoRoom : PySem.W.findIn K (.ref X_NoRoom) "__getattribute__" = some (some (.builtin "BaseException.__getattribute__")))
  (y6_NoRoom : PySem.W.findIn K (.ref X_NoRoom) "__getattr__" = some none)
  (y7_NoRoom : PySem.W.mroIn K X_NoRoom (.type "BaseException") = some true)
  (y2_NoRoom : PySem.W.findIn K (.ref X_NoRoom) "__class__" = some (some (.builtin "object.__class__")))
  (y5_NoRoom : PySem.W.mroIn K X_NoRoom (.type "object") = some true)
  (y_NoWord : PySem.W.nsIn K mainGlobals (Str.ofString "NoWord") = some (some (.ref X_NoWord)))
  (y0_NoWord : PySem.W.excIn K X_NoWord bmE newE = true)
  (y1_NoWord : PySem.W.findIn K (.ref X_NoWord) "__getattribute__" = some (some (.builtin "BaseException.__getattribute__")))
  (y6_NoWord : PySem.W.findIn K (.ref X_NoWord) "__getattr__" = some none)
  (y7_NoWord : PySem.W.mroIn K X_NoWord (.type "BaseException") = some true)
  (y2_NoWord : PySem.W.findIn K (.ref X_NoWord) "__class__" = some (some (.builtin "object.__class__")))
  (y5_NoWord : PySem.W.mroIn K X_NoWord (.type "object") = some true)
  (a1 : PySem.W.nsIn K mainGlobals "_law_cell" = some (some (.ref f1)))
  (l1 : K.lookup f1 = some ⟨oc1, od1, .func (PySem.W.fnOf "_law_cell" "_law_cell" (bR iB) (bD iB) (aF iB) .none kV1 dc1 pm1 an1 cd1 ct1), sl1⟩)
  (c1 : PySem.W.codeIn K cd1 "_law_cell" = true)
  (k1 : PySem.W.keepIn K (.ref f1) = true)
  (a2 : PySem.W.nsIn K mainGlobals "_law_mix" = some (some (.ref f2)))
  (l2 : K.lookup f2 = some ⟨oc2, od2, .func (PySem.W.fnOf "_law_mix" "_law_mix" (bR jJ) (bD jJ) (aF jJ) .none kV2 dc2 pm2 an2 cd2 ct2), sl2⟩)
  (c2 : PySem.W.codeIn K cd2 "_law_mix" = true)
  (k2 : PySem.W.keepIn K (.ref f2) = true)
  (a3 : PySem.W.nsIn K mainGlobals "_law_digits" = some (some (.ref f3)))
  (l3 : K.lookup f3 = some ⟨oc3, od3, .func (PySem.W.fnOf "_law_digits" "_law_digits" (bR fG) (bD fG) (aF fG) .none kV3 dc3 pm3 an3 cd3 ct3), sl3⟩)
  (c3 : PySem.W.codeIn K cd3 "_law_digits" = true)
  (k3 : PySem.W.keepIn K (.ref f3) = true)
  (a4 : PySem.W.nsIn K mainGlobals "_law_made" = some (some (.ref f4)))
  (l4 : K.lookup f4 = some ⟨oc4, od4, .func (PySem.W.fnOf "_law_made" "_law_made" (bR iC) (bD iC) (aF iC) .none kV4 dc4 pm4 an4 cd4 ct4), sl4⟩)
  (c4 : PySem.W.codeIn K cd4 "_law_made" = true)
  (k4 : PySem.W.keepIn K (.ref f4) = true)
  (a5 : PySem.W.nsIn K mainGlobals "ways_from" = some (some (.ref f5)))
  (l5 : K.lookup f5 = some ⟨oc5, od5, .func (PySem.W.fnOf "ways_from" "ways_from" (bR iD) (bD iD) (aF iD) .none kV5 dc5 pm5 an5 cd5 ct5), sl5⟩)
  (c5 : PySem.W.codeIn K cd5 "ways_from" = true)
  (k5 : PySem.W.keepIn K (.ref f5) = true)
  (a6 : PySem.W.nsIn K mainGlobals "rooms_reached" = some (some (.ref f6)))
  (l6 : K.lookup f6 = some ⟨oc6, od6, .func (PySem.W.fnOf "rooms_reached" "rooms_reached" (bR dX) (bD dX) (aF dX) .none kV6 dc6 pm6 an6 cd6 ct6), sl6⟩)
  (c6 : PySem.W.codeIn K cd6 "rooms_reached" = true)
  (k6 : PySem.W.keepIn K (.ref f6) = true)
  (a7 : PySem.W.nsIn K mainGlobals "_law_behind" = some (some (.ref f7)))
  (l7 : K.lookup f7 = some ⟨oc7, od7, .func (PySem.W.fnOf "_law_behind" "_law_behind" (bR fH) (bD fH) (aF fH) .none kV7 dc7 pm7 an7 cd7 ct7), sl7⟩)
  (c7 : PySem.W.codeIn K cd7 "_law_behind" = true)
  (k7 : PySem.W.keepIn K (.ref f7) = true)
  (a8 : PySem.W.nsIn K mainGlobals "_law_ahead" = some (some (.ref f8)))
  (l8 : K.lookup f8 = some ⟨oc8, od8, .func (PySem.W.fnOf "_law_ahead" "_law_ahead" (bR fZ) (bD fZ) (aF fZ) .none kV8 dc8 pm8 an8 cd8 ct8), sl8⟩)
  (c8 : PySem.W.codeIn K cd8 "_law_ahead" = true)
  (k8 : PySem.W.keepIn K (.ref f8) = true)
  (a9 : PySem.W.nsIn K mainGlobals "_law_right" = some (some (.ref f9)))
  (l9 : K.lookup f9 = some ⟨oc9, od9, .func (PySem.W.fnOf "_law_right" "_law_right" (bR gB) (bD gB) (aF gB) .none kV9 dc9 pm9 an9 cd9 ct9), sl9⟩)
  (c9 : PySem.W.codeIn K cd9 "_law_right" = true)
  (k9 : PySem.W.keepIn K (.ref f9) = true)
  (a10 : PySem.W.nsIn K mainGlobals "is_filled_list" = some (some (.ref f10)))
  (l10 : K.lookup f10 = some ⟨oc10, od10, .func (PySem.W.fnOf "is_filled_list" "is_filled_list" (bR dJ) (bD dJ) (aF dJ) .none kV10 dc10 pm10 an10 cd10 ct10), sl10⟩)
  (c10 : PySem.W.codeIn K cd10 "is_filled_list" = true)
  (k10 : PySem.W.keepIn K (.ref f10) = true)
  (a11 : PySem.W.nsIn K mainGlobals "is_whole" = some (some (.ref f11)))
  (l11 : K.lookup f11 = some ⟨oc11, od11, .func (PySem.W.fnOf "is_whole" "is_whole" (bR jK) (bD jK) (aF jK) .none kV11 dc11 pm11 an11 cd11 ct11), sl11⟩)
  (c11 : PySem.W.codeIn K cd11 "is_whole" = true)
  (k11 : PySem.W.keepIn K (.ref f11) = true)
  (a12 : PySem.W.nsIn K mainGlobals "is_below" = some (some (.ref f12)))
  (l12 : K.lookup f12 = some ⟨oc12, od12, .func (PySem.W.fnOf "is_below" "is_below" (bR jL) (bD jL) (aF jL) .none kV12 dc12 pm12 an12 cd12 ct12), sl12⟩)
  (c12 : PySem.W.codeIn K cd12 "is_below" = true)
  (k12 : PySem.W.keepIn K (.ref f12) = true)
  (a13 : PySem.W.nsIn K mainGlobals "is_row" = some (some (.ref f13)))
  (l13 : K.lookup f13 = some ⟨oc13, od13, .func (PySem.W.fnOf "is_row" "is_row" (bR nJ) (bD nJ) (aF nJ) .none kV13 dc13 pm13 an13 cd13 ct13), sl13⟩)
  (c13 : PySem.W.codeIn K cd13 "is_row" = true)
  (k13 : PySem.W.keepIn K (.ref f13) = true)
  (a14 : PySem.W.nsIn K mainGlobals "are_steps" = some (some (.ref f14)))
  (l14 : K.lookup f14 = some ⟨oc14, od14, .func (PySem.W.fnOf "are_steps" "are_steps" (bR iG) (bD iG) (aF iG) .none kV14 dc14 pm14 an14 cd14 ct14), sl14⟩)
  (c14 : PySem.W.codeIn K cd14 "are_steps" = true)
  (k14 : PySem.W.keepIn K (.ref f14) = true)
  (a15 : PySem.W.nsIn K mainGlobals "are_ranks" = some (some (.ref f15)))
  (l15 : K.lookup f15 = some ⟨oc15, od15, .func (PySem.W.fnOf "are_ranks" "are_ranks" (bR iH) (bD iH) (aF iH) .none kV15 dc15 pm15 an15 cd15 ct15), sl15⟩)
  (c15 : PySem.W.codeIn K cd15 "are_ranks" = true)
  (k15 : PySem.W.keepIn K (.ref f15) = true)
  (a16 : PySem.W.findIn K (.ref A_Machine) (Str.ofString "__init__") = some (some (.ref f16)))
  (e16 : PySem.W.isFn K (.ref f16) = true)
  (l16 : K.lookup f16 = some ⟨oc16, od16, .func (PySem.W.fnOf "__init__" "Machine.__init__" (bR dB) (bD dB) (aF dB) .none kV16 dc16 pm16 an16 cd16 ct16), sl16⟩)
  (c16 : PySem.W.codeIn K cd16 "Machine.__init__" = true)
  (k16 : PySem.W.keepIn K (.ref f16) = true)
  (a17 : PySem.W.nsIn K mainGlobals "trimmed" = some (some (.ref f17)))
  (l17 : K.lookup f17 = some ⟨oc17, od17, .func (PySem.W.fnOf "trimmed" "trimmed" (bR lA) (bD lA) (aF lA) .none kV17 dc17 pm17 an17 cd17 ct17), sl17⟩)
  (c17 : PySem.W.codeIn K cd17 "trimmed" = true)
  (k17 : PySem.W.keepIn K (.ref f17) = true)
  (a18 : PySem.W.nsIn K mainGlobals "_law_word" = some (some (.ref f18)))
  (l18 : K.lookup f18 = some ⟨oc18, od18, .func (PySem.W.fnOf "_law_word" "_law_word" (bR iI) (bD iI) (aF iI) .none kV18 dc18 pm18 an18 cd18 ct18), sl18⟩)
  (c18 : PySem.W.codeIn K cd18 "_law_word" = true)
  (k18 : PySem.W.keepIn K (.ref f18) = true)
  (a19 : PySem.W.nsIn K mainGlobals "is_word" = some (some (.ref f19)))
  (l19 : K.lookup f19 = some ⟨oc19, od19, .func (PySem.W.fnOf "is_word" "is_word" (bR lB) (bD lB) (aF lB) .none kV19 dc19 pm19 an19 cd19 ct19), sl19⟩)
  (c19 : PySem.W.codeIn K cd19 "is_word" = true)
  (k19 : PySem.W.keepIn K (.ref f19) = true)
  (a20 : PySem.W.nsIn K mainGlobals "is_endless" = some (some (.ref f20)))
  (l20 : K.lookup f20 = some ⟨oc20, od20, .func (PySem.W.fnOf "is_endless" "is_endless" (bR gC) (bD gC) (aF gC) .none kV20 dc20 pm20 an20 cd20 ct20), sl20⟩)
  (c20 : PySem.W.codeIn K cd20 "is_endless" = true)
  (k20 : PySem.W.keepIn K (.ref f20) = true)
  (a21 : PySem.W.findIn K (.ref A_Machine) (Str.ofString "check_room") = some (some (.ref f21)))
  (e21 : PySem.W.isFn K (.ref f21) = true)
  (l21 : K.lookup f21 = some ⟨oc21, od21, .func (PySem.W.fnOf "check_room" "Machine.check_room" (bR cP) (bD cP) (aF cP) .none kV21 dc21 pm21 an21 cd21 ct21), sl21⟩)
  (c21 : PySem.W.codeIn K cd21 "Machine.check_room" = true)
  (k21 : PySem.W.keepIn K (.ref f21) = true)
  (a22 : PySem.W.findIn K (.ref A_Machine) (Str.ofString "rooms_along") = some (some (.ref f22)))
  (e22 : PySem.W.isFn K (.ref f22) = true)
  (l22 : K.lookup f22 = some ⟨oc22, od22, .func (PySem.W.fnOf "rooms_along" "Machine.rooms_along" (bR cJ) (bD cJ) (aF cJ) .none kV22 dc22 pm22 an22 cd22 ct22), sl22⟩)
  (c22 : PySem.W.codeIn K cd22 "Machine.rooms_along" = true)
  (k22 : PySem.W.keepIn K (.ref f22) = true)
  (a23 : PySem.W.findIn K (.ref A_Machine) (Str.ofString "walk") = some (some (.ref f23)))
  (e23 : PySem.W.isFn K (.ref f23) = true)
  (l23 : K.lookup f23 = some ⟨oc23, od23, .func (PySem.W.fnOf "walk" "Machine.walk" (bR eV) (bD eV) (aF eV) (.ref T23) kV23 dc23 pm23 an23 cd23 ct23), sl23⟩)
  (t23 : K.lookup T23 = some ⟨toc23, tod23, .seq #[.int 0 tk23_0] tn23, tsl23⟩)
  (c23 : PySem.W.codeIn K cd23 "Machine.walk" = true)
  (k23 : PySem.W.keepIn K (.ref f23) = true)
  (a24 : PySem.W.findIn K (.ref A_Machine) (Str.ofString "lets") = some (some (.ref f24)))
  (e24 : PySem.W.isFn K (.ref f24) = true)
  (l24 : K.lookup f24 = some ⟨oc24, od24, .func (PySem.W.fnOf "lets" "Machine.lets" (bR eX) (bD eX) (aF eX) (.ref T24) kV24 dc24 pm24 an24 cd24 ct24), sl24⟩)
  (t24 : K.lookup T24 = some ⟨toc24, tod24, .seq #[.int 0 tk24_0] tn24, tsl24⟩)
  (c24 : PySem.W.codeIn K cd24 "Machine.lets" = true)
  (k24 : PySem.W.keepIn K (.ref f24) = true)
  (a25 : PySem.W.nsIn K mainGlobals "law" = some (some (.ref f25)))
  (l25 : K.lookup f25 = some ⟨oc25, od25, .func (PySem.W.fnOf "law" "law" (bR uA) (bD uA) (aF uA) .none kV25 dc25 pm25 an25 cd25 ct25), sl25⟩)
  (c25 : PySem.W.codeIn K cd25 "law" = true)
  (k25 : PySem.W.keepIn K (.ref f25) = true)
  (v_LETTERS : PySem.W.nsIn K mainGlobals "LETTERS" = some (some (.str "abc" t_LETTERS)))
  (v_MOST_LETTERS : PySem.W.nsIn K mainGlobals "MOST_LETTERS" = some (some (.int 3 t_MOST_LETTERS)))
  (v_MOST_ROOMS : PySem.W.nsIn K mainGlobals "MOST_ROOMS" = some (some (.int 8 t_MOST_ROOMS)))
  (z_all : PySem.W.nsIn K mainGlobals "all" = some none)
  (z_bool : PySem.W.nsIn K mainGlobals "bool" = some none)
  (z_int : PySem.W.nsIn K mainGlobals "int" = some none)
  (z_isinstance : PySem.W.nsIn K mainGlobals "isinstance" = some none)
  (z_len : PySem.W.nsIn K mainGlobals "len" = some none)
  (z_list : PySem.W.nsIn K mainGlobals "list" = some none)
  (z_max : PySem.W.nsIn K mainGlobals "max" = some none)
  (z_min : PySem.W.nsIn K mainGlobals "min" = some none)
  (z_range : PySem.W.nsIn K mainGlobals "range" = some none)
  (z_str : PySem.W.nsIn K mainGlobals "str" = some none)
  (z_tuple : PySem.W.nsIn K mainGlobals "tuple" = some none)
  (z_zip : PySem.W.nsIn K mainGlobals "zip" = some none) :
  ∃ fd : FuncData, (∀ (s : Shared) (v : Value), BindsTo s fd ⟨[v], []⟩ [("_law_script", v)]) /\ ∀ base : Heap, K.In base -> base.Ns mainGlobals mg -> FnOk l.prog w K mg base CX0 8 fa fd ["_law_script"] (spI K 1 aA9) := by
 have e := hfa.symm.trans (PySem.W.mg_of X G a25)
 cases e
 have c_Machine : ClsAt K "Machine" A_Machine := ⟨x_Machine, x1_Machine, x2_Machine, x3_Machine, x4_Machine⟩
 have na_Machine_letters : cX K A_Machine (Str.ofString "letters") := w_Machine_letters
 have na_Machine_many : cX K A_Machine (Str.ofString "many") := w_Machine_many
 have na_Machine_ranks : cX K A_Machine (Str.ofString "ranks") := w_Machine_ranks
 have na_Machine_steps : cX K A_Machine (Str.ofString "steps") := w_Machine_steps
 obtain ⟨bm_NoMachine, e_NoMachine⟩ := yX FE y_NoMachine y0_NoMachine y1_NoMachine y6_NoMachine y7_NoMachine y2_NoMachine y3 y4 y5_NoMachine
 have ge_NoMachine := PySem.W.mg_of X G y_NoMachine
 obtain ⟨bm_NoRoom, e_NoRoom⟩ := yX FE y_NoRoom y0_NoRoom y1_NoRoom y6_NoRoom y7_NoRoom y2_NoRoom y3 y4 y5_NoRoom
 have ge_NoRoom := PySem.W.mg_of X G y_NoRoom
 obtain ⟨bm_NoWord, e_NoWord⟩ := yX FE y_NoWord y0_NoWord y1_NoWord y6_NoWord y7_NoWord y2_NoWord y3 y4 y5_NoWord
 have ge_NoWord := PySem.W.mg_of X G y_NoWord
 have F1 := cQ (st := iB) l1 c1 k1
 have b1 := F1.binds0 (ps := ["_law_script", "_law_k"]) fun _ _ _ _ _ _ => gO (fun _ _ => rfl)
 have F2 := cQ (st := jJ) l2 c2 k2
 have b2 := F2.binds0 (ps := ["_law_cell_here", "_law_k", "_law_many"]) fun _ _ _ _ _ _ => kY (fun _ _ _ => rfl)
 have F3 := cQ (st := fG) l3 c3 k3
 have b3 := F3.binds0 (ps := ["_law_cell_here", "_law_many", "_law_count"]) fun _ _ _ _ _ _ => kY (fun _ _ _ => rfl)
 have F4 := cQ (st := iC) l4 c4 k4
 have b4 := F4.binds0 (ps := ["_law_script", "_law_most"]) fun _ _ _ _ _ _ => gO (fun _ _ => rfl)
 have F5 := cQ (st := iD) l5 c5 k5
 have b5 := F5.binds0 (ps := ["steps", "start", "allowed"]) fun _ _ _ _ _ _ => kY (fun _ _ _ => rfl)
 have F6 := cQ (st := dX) l6 c6 k6
 have b6 := F6.binds0 (ps := ["machine"]) fun _ _ _ _ _ _ => qD (fun _ => rfl)
 have F7 := cQ (st := fH) l7 c7 k7
 have b7 := F7.binds0 (ps := ["_law_steps", "_law_room", "_law_text"]) fun _ _ _ _ _ _ => kY (fun _ _ _ => rfl)
 have F8 := cQ (st := fZ) l8 c8 k8
 have b8 := F8.binds0 (ps := ["_law_one", "_law_other"]) fun _ _ _ _ _ _ => gO (fun _ _ => rfl)
 have F9 := cQ (st := gB) l9 c9 k9
 have b9 := F9.binds0 (ps := ["_law_steps", "_law_found"]) fun _ _ _ _ _ _ => gO (fun _ _ => rfl)
 have F10 := cQ (st := dJ) l10 c10 k10
 have b10 := F10.binds0 (ps := ["thing", "most"]) fun _ _ _ _ _ _ => gO (fun _ _ => rfl)
 have F11 := cQ (st := jK) l11 c11 k11
 have b11 := F11.binds0 (ps := ["thing"]) fun _ _ _ _ _ _ => qD (fun _ => rfl)
 have F12 := cQ (st := jL) l12 c12 k12
 have b12 := F12.binds0 (ps := ["thing", "limit"]) fun _ _ _ _ _ _ => gO (fun _ _ => rfl)
 have F13 := cQ (st := nJ) l13 c13 k13
 have b13 := F13.binds0 (ps := ["thing", "letters", "rooms"]) fun _ _ _ _ _ _ => kY (fun _ _ _ => rfl)
 have F14 := cQ (st := iG) l14 c14 k14
 have b14 := F14.binds0 (ps := ["thing"]) fun _ _ _ _ _ _ => qD (fun _ => rfl)
 have F15 := cQ (st := iH) l15 c15 k15
 have b15 := F15.binds0 (ps := ["thing", "rooms"]) fun _ _ _ _ _ _ => gO (fun _ _ => rfl)
 have F16 := aPt (st := dB) l16 c16 k16
 have b16 := F16.binds (ps := ["self", "steps", "ranks"]) fun _ _ _ _ _ _ => kY (fun _ _ _ => rfl)
 have F17 := cQ (st := lA) l17 c17 k17
 have b17 := F17.binds0 (ps := ["machine"]) fun _ _ _ _ _ _ => qD (fun _ => rfl)
 have F18 := cQ (st := iI) l18 c18 k18
 have b18 := F18.binds0 (ps := ["_law_cell_here", "_law_size", "_law_count"]) fun _ _ _ _ _ _ => kY (fun _ _ _ => rfl)
 have F19 := cQ (st := lB) l19 c19 k19
 have b19 := F19.binds0 (ps := ["thing", "many"]) fun _ _ _ _ _ _ => gO (fun _ _ => rfl)
 have F20 := cQ (st := gC) l20 c20 k20
 have b20 := F20.binds0 (ps := ["thing", "many"]) fun _ _ _ _ _ _ => gO (fun _ _ => rfl)
 have F21 := cQ (st := cP) l21 c21 k21
 have b21 := F21.binds0 (ps := ["self", "thing"]) fun _ _ _ _ _ _ => gO (fun _ _ => rfl)
 have F22 := cQ (st := cJ) l22 c22 k22
 have b22 := F22.binds0 (ps := ["self", "room", "text"]) fun _ _ _ _ _ _ => kY (fun _ _ _ => rfl)
 have F23 := cQ (st := eV) l23 c23 k23
 have b23_0 : Binds K _ ["self", "word", "room"] [] := F23.binds (m := 3) t23 rfl rfl fun _ _ _ _ _ _ => kY (fun _ _ _ => ⟨_, rfl, rfl⟩)
 have F24 := cQ (st := eX) l24 c24 k24
 have b24_1 : Binds K _ ["self", "word", "room"] [.int 0 tk24_0] := F24.binds (m := 2) t24 rfl rfl fun _ _ _ _ _ _ => gO (fun _ _ => ⟨_, rfl, rfl⟩)
 have F25 := cQ (st := uA) l25 c25 k25
 have b25 := F25.binds0 (ps := ["_law_script"]) fun _ _ _ _ _ _ => qD (fun _ => rfl)
 have b_all := PySem.W.mg_none_of X G z_all
 have b_bool := PySem.W.mg_none_of X G z_bool
 have b_int := PySem.W.mg_none_of X G z_int
 have b_isinstance := PySem.W.mg_none_of X G z_isinstance
 have b_len := PySem.W.mg_none_of X G z_len
 have b_list := PySem.W.mg_none_of X G z_list
 have b_max := PySem.W.mg_none_of X G z_max
 have b_min := PySem.W.mg_none_of X G z_min
 have b_range := PySem.W.mg_none_of X G z_range
 have b_str := PySem.W.mg_none_of X G z_str
 have b_tuple := PySem.W.mg_none_of X G z_tuple
 have b_zip := PySem.W.mg_none_of X G z_zip
 have g_LETTERS := PySem.W.mg_of X G v_LETTERS
 have g_MOST_LETTERS := PySem.W.mg_of X G v_MOST_LETTERS
 have g_MOST_ROOMS := PySem.W.mg_of X G v_MOST_ROOMS
 refine ⟨PySem.W.fnOf "law" "law" (bR uA) (bD uA) (aF uA) .none kV25 dc25 pm25 an25 cd25 ct25, fun s v => .of_eq rfl, fun base _ _ => ?_⟩
 have f__law_cell := aDz (P := l.prog) (w := w) (mg := mg) (base := base) F1 b_len
 have h__law_cell := DefOk.of f__law_cell (PySem.W.mg_of X G a1) F1.kp b1 cO
 have f__law_mix := aFc (P := l.prog) (w := w) (mg := mg) (base := base) F2 
 have h__law_mix := DefOk.of f__law_mix (PySem.W.mg_of X G a2) F2.kp b2 cO
 have f__law_digits := zN (P := l.prog) (w := w) (mg := mg) (base := base) F3 b_range
 have h__law_digits := DefOk.of f__law_digits (PySem.W.mg_of X G a3) F3.kp b3 cO
 have f__law_made := aE0 (P := l.prog) (w := w) (mg := mg) (base := base) F4 h__law_cell h__law_mix h__law_digits b_range
 have h__law_made := DefOk.of f__law_made (PySem.W.mg_of X G a4) F4.kp b4 cO
 have f_ways_from := aE1 (P := l.prog) (w := w) (mg := mg) (base := base) F5 b_len b_zip g_LETTERS
 have h_ways_from := DefOk.of f_ways_from (PySem.W.mg_of X G a5) F5.kp b5 cO
 have f_rooms_reached := wI (P := l.prog) (w := w) (mg := mg) (base := base) F6 h_ways_from c_Machine na_Machine_many na_Machine_steps b_list b_range
 have h_rooms_reached := DefOkF.of f_rooms_reached (PySem.W.mg_of X G a6) F6.kp b6
 have f__law_behind := zO (P := l.prog) (w := w) (mg := mg) (base := base) F7 
 have h__law_behind := DefOk.of f__law_behind (PySem.W.mg_of X G a7) F7.kp b7 cO
 have f__law_ahead := aCc (P := l.prog) (w := w) (mg := mg) (base := base) F8 b_len
 have h__law_ahead := DefOk.of f__law_ahead (PySem.W.mg_of X G a8) F8.kp b8 cO
 have f__law_right := aCd (P := l.prog) (w := w) (mg := mg) (base := base) F9 h__law_behind h__law_ahead b_isinstance b_list b_tuple b_range b_len
 have h__law_right := DefOk.of f__law_right (PySem.W.mg_of X G a9) F9.kp b9 cO
 have f_is_filled_list := vD (P := l.prog) (w := w) (mg := mg) (base := base) F10 b_isinstance b_list b_len
 have h_is_filled_list := DefOk.of f_is_filled_list (PySem.W.mg_of X G a10) F10.kp b10 cO
 have f_is_whole := aFd (P := l.prog) (w := w) (mg := mg) (base := base) F11 b_isinstance b_int b_bool
 have h_is_whole := DefOk.of f_is_whole (PySem.W.mg_of X G a11) F11.kp b11 cO
 have f_is_below := aFe (P := l.prog) (w := w) (mg := mg) (base := base) F12 h_is_whole
 have h_is_below := DefOk.of f_is_below (PySem.W.mg_of X G a12) F12.kp b12 cO
 have f_is_row := aLi (P := l.prog) (w := w) (mg := mg) (base := base) F13 h_is_below b_len b_all
 have h_is_row := DefOk.of f_is_row (PySem.W.mg_of X G a13) F13.kp b13 cO
 have f_are_steps := aE2 (P := l.prog) (w := w) (mg := mg) (base := base) F14 h_is_filled_list h_is_row b_all b_len g_MOST_ROOMS g_MOST_LETTERS
 have h_are_steps := DefOk.of f_are_steps (PySem.W.mg_of X G a14) F14.kp b14 cO
 have f_are_ranks := aE3 (P := l.prog) (w := w) (mg := mg) (base := base) F15 h_is_whole b_isinstance b_list b_len b_all
 have h_are_ranks := DefOk.of f_are_ranks (PySem.W.mg_of X G a15) F15.kp b15 cO
 have f_Machine___init__ := rT (P := l.prog) (w := w) (mg := mg) (base := base) F16 h_are_steps h_are_ranks c_Machine na_Machine_steps na_Machine_ranks na_Machine_many na_Machine_letters b_len b_list
 have k_Machine := MakeOk.of c_Machine ⟨x5_Machine, a16, e16, x6_Machine⟩ f_Machine___init__ b16 (PySem.W.mg_of X G x_Machine)
 have f_trimmed := aIg (P := l.prog) (w := w) (mg := mg) (base := base) F17 h_rooms_reached k_Machine c_Machine na_Machine_steps na_Machine_ranks
 have h_trimmed := DefOk.of f_trimmed (PySem.W.mg_of X G a17) F17.kp b17 cO
 have f__law_word := aE4 (P := l.prog) (w := w) (mg := mg) (base := base) F18 h__law_digits h__law_mix b_range
 have h__law_word := DefOk.of f__law_word (PySem.W.mg_of X G a18) F18.kp b18 cO
 have f_is_word := aIh (P := l.prog) (w := w) (mg := mg) (base := base) F19 b_isinstance b_str g_LETTERS
 have h_is_word := DefOk.of f_is_word (PySem.W.mg_of X G a19) F19.kp b19 cO
 have f_is_endless := aCe (P := l.prog) (w := w) (mg := mg) (base := base) F20 h_is_word b_isinstance b_tuple b_len
 have h_is_endless := DefOk.of f_is_endless (PySem.W.mg_of X G a20) F20.kp b20 cO
 have f_Machine_check_room := pU (P := l.prog) (w := w) (mg := mg) (base := base) F21 h_is_below c_Machine na_Machine_many e_NoRoom ge_NoRoom
 have m_Machine_check_room_0 : MethOkX l.prog w K mg base "Machine" "check_room" 3 2 [] cN := MethOkX.of (dvs := []) c_Machine ⟨a21, e21, k21⟩ f_Machine_check_room b21 (.nil) fun _ => .nil
 have f_Machine_rooms_along := oO (P := l.prog) (w := w) (mg := mg) (base := base) F22 c_Machine na_Machine_steps g_LETTERS
 have m_Machine_rooms_along_0 : MethOkF l.prog w K mg base "Machine" "rooms_along" 1 3 [] bH := MethOkF.of (dvs := []) c_Machine ⟨a22, e22, k22⟩ f_Machine_rooms_along b22 (.nil) fun _ => .nil
 have f_Machine_walk := zF (P := l.prog) (w := w) (mg := mg) (base := base) F23 h_is_endless m_Machine_check_room_0 m_Machine_rooms_along_0 c_Machine na_Machine_letters e_NoWord ge_NoWord b_len
 have m_Machine_walk_0 : MethOkX l.prog w K mg base "Machine" "walk" 4 3 [] fP := MethOkX.of (dvs := []) c_Machine ⟨a23, e23, k23⟩ f_Machine_walk b23_0 (.nil) fun _ => .nil
 have f_Machine_lets := zG (P := l.prog) (w := w) (mg := mg) (base := base) F24 m_Machine_walk_0 c_Machine na_Machine_ranks b_max
 have m_Machine_lets_1 : MethOkX l.prog w K mg base "Machine" "lets" 5 3 [.int 0] cG := MethOkX.of (dvs := [.int (0)]) c_Machine ⟨a24, e24, k24⟩ f_Machine_lets b24_1 (.cons ⟨_, rfl⟩ (.nil)) fun _ => .cons (aN.mpr rfl) (.nil)
 have f_law := aV7 (P := l.prog) (w := w) (mg := mg) (base := base) F25 h__law_made h_rooms_reached h__law_right h_trimmed h__law_cell h__law_word h__law_mix m_Machine_lets_1 k_Machine c_Machine na_Machine_steps na_Machine_ranks na_Machine_many b_len b_list b_range b_max b_min
 exact f_law
theorem walk {l : PySem.W.OpenLaw} {q : Program} {loose : List Str} {XP : (Str -> Option Value) -> Heap -> Prop} {YP : World -> Heap -> Prop} {d : DefRec} {K : Params -> PySem.W.Frag} (hn : l.most = some 63) (hdf : d.params.defaults = [])
  (hY : ∀ (w : World) (h : Heap), YP w h -> (K w.params).In h)
  (hlaw : ∀ ns : List Int, ns.length <= 63 -> aA9 [.lst (ns.map D.int)] = .ok (.bl true))
  (F : ∀ (w : World) (mg : Str -> Option Value) (fa : Addr) (h : Heap), (K w.params).In h -> h.Ns mainGlobals mg -> mg d.name = some (.ref fa) ->
   ∃ fd : FuncData, (∀ (s : Shared) (u : Value), BindsTo s fd ⟨[u], []⟩ [("_law_script", u)]) /\ ∀ base : Heap, (K w.params).In base -> base.Ns mainGlobals mg -> FnOk l.prog w (K w.params) mg base CX0 8 fa fd ["_law_script"] (spI (K w.params) 1 aA9)) :
  PySem.W.WalkO q loose XP YP l.row.toRowW d [] (fun f vs => PySem.call f vs) :=
 L2.walk_of (n := 63) (k := 8) (x := "_law_script") (CX := fun _ => CX0) (sp := fun w => spI (K w.params) 1 aA9) hn (by decide) hdf ⟨rfl, by decide, by decide⟩ hY F (fun _ _ a ns hl _ hS => aRe hS (hlaw ns hl)) fun _ _ _ _ _ z => z
end Pu
open PySem PySem.W PyProof.Rows
set_option maxRecDepth 100000 in
set_option maxHeartbeats 0 in
theorem PySem.Challenge.cw_looprank_k17_rooms_come_to_holds : PySem.Challenge.rw_looprank_k17_rooms_come_to.Holds := by
 w_on; o_law; k_head; (case hw => w_witness2)
 k_fill
 refine Pu.walk (l := PySem.Challenge.rw_looprank_k17_rooms_come_to) rfl rfl (fun w h Y => PySem.W.kIn_of Y) Pu.law_true ?F
 case F =>
  intro w mg fa h KX G hmg
  refine' Pu.all_mk PySem.F.excBase_ValueError KX G hmg ?x_Machine ?x1_Machine ?x2_Machine ?x3_Machine ?x4_Machine ?x5_Machine ?x6_Machine ?w_Machine_letters ?w_Machine_many ?w_Machine_ranks ?w_Machine_steps ?y3 ?y4 ?y_NoMachine ?y0_NoMachine ?y1_NoMachine ?y6_NoMachine ?y7_NoMachine ?y2_NoMachine ?y5_NoMachine ?y_NoRoom ?y0_NoRoom ?y1_NoRoom ?y6_NoRoom ?y7_NoRoom ?y2_NoRoom ?y5_NoRoom ?y_NoWord ?y0_NoWord ?y1_NoWord ?y6_NoWord ?y7_NoWord ?y2_NoWord ?y5_NoWord ?a1 ?l1 ?c1 ?k1 ?a2 ?l2 ?c2 ?k2 ?a3 ?l3 ?c3 ?k3 ?a4 ?l4 ?c4 ?k4 ?a5 ?l5 ?c5 ?k5 ?a6 ?l6 ?c6 ?k6 ?a7 ?l7 ?c7 ?k7 ?a8 ?l8 ?c8 ?k8 ?a9 ?l9 ?c9 ?k9 ?a10 ?l10 ?c10 ?k10 ?a11 ?l11 ?c11 ?k11 ?a12 ?l12 ?c12 ?k12 ?a13 ?l13 ?c13 ?k13 ?a14 ?l14 ?c14 ?k14 ?a15 ?l15 ?c15 ?k15 ?a16 ?e16 ?l16 ?c16 ?k16 ?a17 ?l17 ?c17 ?k17 ?a18 ?l18 ?c18 ?k18 ?a19 ?l19 ?c19 ?k19 ?a20 ?l20 ?c20 ?k20 ?a21 ?e21 ?l21 ?c21 ?k21 ?a22 ?e22 ?l22 ?c22 ?k22 ?a23 ?e23 ?l23 ?t23 ?c23 ?k23 ?a24 ?e24 ?l24 ?t24 ?c24 ?k24 ?a25 ?l25 ?c25 ?k25 ?v_LETTERS ?v_MOST_LETTERS ?v_MOST_ROOMS ?z_all ?z_bool ?z_int ?z_isinstance ?z_len ?z_list ?z_max ?z_min ?z_range ?z_str ?z_tuple ?z_zip
  (case x_Machine => k_is)
  (case x1_Machine => k_is)
  (case x2_Machine => k_is)
  (case x3_Machine => k_is)
  (case x4_Machine => k_is)
  (case x5_Machine => k_is)
  (case x6_Machine => k_is)
  (case w_Machine_letters => k_is)
  (case w_Machine_many => k_is)
  (case w_Machine_ranks => k_is)
  (case w_Machine_steps => k_is)
  (case y3 => k_is)
  (case y4 => k_is)
  (case y_NoMachine => k_is)
  (case y0_NoMachine => k_exc)
  (case y1_NoMachine => k_is)
  (case y6_NoMachine => k_is)
  (case y7_NoMachine => k_is)
  (case y2_NoMachine => k_is)
  (case y5_NoMachine => k_is)
  (case y_NoRoom => k_is)
  (case y0_NoRoom => k_exc)
  (case y1_NoRoom => k_is)
  (case y6_NoRoom => k_is)
  (case y7_NoRoom => k_is)
  (case y2_NoRoom => k_is)
  (case y5_NoRoom => k_is)
  (case y_NoWord => k_is)
  (case y0_NoWord => k_exc)
  (case y1_NoWord => k_is)
  (case y6_NoWord => k_is)
  (case y7_NoWord => k_is)
  (case y2_NoWord => k_is)
  (case y5_NoWord => k_is)
  (case a1 => k_is)
  (case l1 => k_is)
  (case c1 => k_is)
  (case k1 => k_is)
  (case a2 => k_is)
  (case l2 => k_is)
  (case c2 => k_is)
  (case k2 => k_is)
  (case a3 => k_is)
  (case l3 => k_is)
  (case c3 => k_is)
  (case k3 => k_is)
  (case a4 => k_is)
  (case l4 => k_is)
  (case c4 => k_is)
  (case k4 => k_is)
  (case a5 => k_is)
  (case l5 => k_is)
  (case c5 => k_is)
  (case k5 => k_is)
  (case a6 => k_is)
  (case l6 => k_is)
  (case c6 => k_is)
  (case k6 => k_is)
  (case a7 => k_is)
  (case l7 => k_is)
  (case c7 => k_is)
  (case k7 => k_is)
  (case a8 => k_is)
  (case l8 => k_is)
  (case c8 => k_is)
  (case k8 => k_is)
  (case a9 => k_is)
  (case l9 => k_is)
  (case c9 => k_is)
  (case k9 => k_is)
  (case a10 => k_is)
  (case l10 => k_is)
  (case c10 => k_is)
  (case k10 => k_is)
  (case a11 => k_is)
  (case l11 => k_is)
  (case c11 => k_is)
  (case k11 => k_is)
  (case a12 => k_is)
  (case l12 => k_is)
  (case c12 => k_is)
  (case k12 => k_is)
  (case a13 => k_is)
  (case l13 => k_is)
  (case c13 => k_is)
  (case k13 => k_is)
  (case a14 => k_is)
  (case l14 => k_is)
  (case c14 => k_is)
  (case k14 => k_is)
  (case a15 => k_is)
  (case l15 => k_is)
  (case c15 => k_is)
  (case k15 => k_is)
  (case a16 => k_is)
  (case e16 => k_is)
  (case l16 => k_is)
  (case c16 => k_is)
  (case k16 => k_is)
  (case a17 => k_is)
  (case l17 => k_is)
  (case c17 => k_is)
  (case k17 => k_is)
  (case a18 => k_is)
  (case l18 => k_is)
  (case c18 => k_is)
  (case k18 => k_is)
  (case a19 => k_is)
  (case l19 => k_is)
  (case c19 => k_is)
  (case k19 => k_is)
  (case a20 => k_is)
  (case l20 => k_is)
  (case c20 => k_is)
  (case k20 => k_is)
  (case a21 => k_is)
  (case e21 => k_is)
  (case l21 => k_is)
  (case c21 => k_is)
  (case k21 => k_is)
  (case a22 => k_is)
  (case e22 => k_is)
  (case l22 => k_is)
  (case c22 => k_is)
  (case k22 => k_is)
  (case a23 => k_is)
  (case e23 => k_is)
  (case l23 => k_is)
  (case t23 => k_is)
  (case c23 => k_is)
  (case k23 => k_is)
  (case a24 => k_is)
  (case e24 => k_is)
  (case l24 => k_is)
  (case t24 => k_is)
  (case c24 => k_is)
  (case k24 => k_is)
  (case a25 => k_is)
  (case l25 => k_is)
  (case c25 => k_is)
  (case k25 => k_is)
  (case v_LETTERS => k_is)
  (case v_MOST_LETTERS => k_is)
  (case v_MOST_ROOMS => k_is)
  (case z_all => k_is)
  (case z_bool => k_is)
  (case z_int => k_is)
  (case z_isinstance => k_is)
  (case z_len => k_is)
  (case z_list => k_is)
  (case z_max => k_is)
  (case z_min => k_is)
  (case z_range => k_is)
  (case z_str => k_is)
  (case z_tuple => k_is)
  (case z_zip => k_is)
